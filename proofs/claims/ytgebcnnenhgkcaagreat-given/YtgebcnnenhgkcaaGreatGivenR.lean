/- The range over what All gave, within Given. -/
import Derived.Test.YtgebcnnenhgkcaaGreatGivenQ
namespace Go.Proofs.YtgebcnnenhgkcaaGreat
open Go.RowKit Go.Shelf
attribute [local go_sem] Oper.semAt_some

/-- The first range over the function in slot n, in a code. -/
def rfAt (n : Nat) : Code → Option Code
  | .rangeFunc (.tmp m) ps a b => if m = n then some (.rangeFunc (.tmp m) ps a b) else none
  | .seq a b => match rfAt n a with
    | some c => some c
    | none => rfAt n b
  | .loop c => rfAt n c
  | .block _ c => rfAt n c
  | .scope c => rfAt n c
  | .cond _ a b => match rfAt n a with
    | some c => some c
    | none => rfAt n b
  | _ => none

/-- What lies fixed while the votes are gone through. -/
structure Fixed (W : World) (Pr : Nat → Prop) (L Rz bx x b rb bw Bx : Nat) (v' : Value) (lv : Int) (vs : List Vt) (rvp : Option Addr) (rvc : Nat) (rpp : Option Addr) (rpn rpc : Nat) : Prop where
  fL : W.cell? ⟨L, 0, none⟩ = some (.int .i64 lv)
  fb : W.cell? ⟨bx, 0, none⟩ = some (.pointer (some ⟨x, 0, none⟩))
  fx0 : W.cell? ⟨x, 0, none⟩ = some (.pointer (some ⟨b, 0, none⟩))
  fx1 : W.cell? ⟨x, 1, none⟩ = some (.pointer (some ⟨rb, 0, none⟩))
  fr1 : W.cell? ⟨rb, 1, none⟩ = some (.slice rpp rpn rpc)
  fw : W.cell? ⟨bw, 0, none⟩ = some (.slice rvp vs.length rvc)
  want : W.ownsRow 0 47 3 (.slice rvp vs.length rvc) vs.length (vtRow vs)
  snap : Snap W Bx v' vs
  pL : Pr L
  pb : Pr bx
  px : Pr x
  pr : Pr rb
  pw : Pr bw
  pv : ∀ k, Value.ownBlock (.slice rvp vs.length rvc) = some k → Pr k
  ps : ∀ k, k = Bx ∨ v'.ownBlock = some k → Pr k
  lt : ∀ k, Pr k → k < W.heap.size

theorem Fixed.kept {W W' : World} {Pr : Nat → Prop} {L Rz bx x b rb bw Bx : Nat} {v' : Value} {lv : Int} {vs : List Vt} {rvp : Option Addr} {rvc : Nat} {rpp : Option Addr} {rpn rpc : Nat}
    (h : Fixed W Pr L Rz bx x b rb bw Bx v' lv vs rvp rvc rpp rpn rpc) (hc : Chg (fun k => ¬ Pr k) W W') : Fixed W' Pr L Rz bx x b rb bw Bx v' lv vs rvp rvc rpp rpn rpc :=
  ⟨hc.cell h.fL (fun hn => hn h.pL), hc.cell h.fb (fun hn => hn h.pb), hc.cell h.fx0 (fun hn => hn h.px), hc.cell h.fx1 (fun hn => hn h.px), hc.cell h.fr1 (fun hn => hn h.pr), hc.cell h.fw (fun hn => hn h.pw),
    hc.row h.want (fun k hk hn => hn (h.pv k hk)), h.snap.kept (fun k hk => hc.block k (h.lt k (h.ps k hk)) (fun hn => hn (h.ps k hk))), h.pL, h.pb, h.px, h.pr, h.pw, h.pv, h.ps, fun k hk => Nat.lt_of_lt_of_le (h.lt k hk) hc.size⟩

/-- Between two rounds, pre having come. -/
structure Mid (W7 W : World) (Pr : Nat → Prop) (b Rz bt bn : Nat) (ws : List Int) (vs : List Vt) (turn : Int) (pre : List Vt) : Prop where
  isPre : pre <+: vs
  n : W.cell? ⟨bn, 0, none⟩ = some (.int .i64 pre.length)
  nf : W.frozen? ⟨bn, 0, none⟩ = false
  t : W.cell? ⟨bt, 0, none⟩ = some (.int .i64 turn)
  tf : W.frozen? ⟨bt, 0, none⟩ = false
  r : W.cell? ⟨Rz, 0, none⟩ = some (.bool false)
  rf : W.frozen? ⟨Rz, 0, none⟩ = false
  alone : Alone W (fun k => Pr k ∨ k = bn ∨ k = bt) b ws
  chg : Chg (fun k => ¬ Pr k) W7 W

theorem Mid.own {W7 : World} {Pr : Nat → Prop} {b Rz bt bn : Nat} {ws : List Int} {vs : List Vt} {turn : Int} (hP : ∀ k, Pr k → k < W7.heap.size) : OwnFrom W7.heap.size (fun pre W => Mid W7 W Pr b Rz bt bn ws vs turn pre) := by
  intro pre W W' row h hg hr
  have hr' : ∀ r, row = some r → ∃ o : Obj, W.heap[r]? = some o ∧ o.isCells = false := fun r e => (hr r e).2
  exact ⟨h.isPre, cell_kept h.n hg hr', (frozen_kept h.n hg hr').trans h.nf, cell_kept h.t hg hr', (frozen_kept h.t hg hr').trans h.tf, cell_kept h.r hg hr', (frozen_kept h.r hg hr').trans h.rf, h.alone.grown hg hr',
    h.chg.grown hg (fun k e => .inl (fun hp => by have := hP k hp; have := (hr k e).1; omega))⟩

section
variable {W7 W W' : World} {Pr : Nat → Prop} {b Rz bt bn : Nat} {ws : List Int} {vs : List Vt} {turn : Int} {pre : List Vt}

theorem Chg.frozen {S : Nat → Prop} {w w' : World} (h : Chg S w w') {p : Addr} (hp : p.block < w.heap.size) (hs : ¬ S p.block) : w'.frozen? p = w.frozen? p := World.frozen?_of_block (w := w) (h.block p.block hp hs)
/-- A call that turns nothing of ours. -/
theorem Mid.kept (h : Mid W7 W Pr b Rz bt bn ws vs turn pre) (hrP : Pr Rz) (hA : Alone W' (fun k => Pr k ∨ k = bn ∨ k = bt) b ws) (hc : Chg (fun k => ¬ (Pr k ∨ k = bn ∨ k = bt)) W W') : Mid W7 W' Pr b Rz bt bn ws vs turn pre :=
  have l1 : bn < W.heap.size := World.block_lt_of_cell? W _ h.n
  have l2 : bt < W.heap.size := World.block_lt_of_cell? W _ h.t
  have l3 : Rz < W.heap.size := World.block_lt_of_cell? W _ h.r
  ⟨h.isPre, hc.cell h.n (fun hn => hn (.inr (.inl rfl))), (hc.frozen (p := ⟨bn, 0, none⟩) l1 (fun hn => hn (.inr (.inl rfl)))).trans h.nf, hc.cell h.t (fun hn => hn (.inr (.inr rfl))), (hc.frozen (p := ⟨bt, 0, none⟩) l2 (fun hn => hn (.inr (.inr rfl)))).trans h.tf,
    hc.cell h.r (fun hn => hn (.inl hrP)), (hc.frozen (p := ⟨Rz, 0, none⟩) l3 (fun hn => hn (.inl hrP))).trans h.rf, hA, h.chg.trans (hc.mono (fun _ _ hn hp => hn (.inl hp)))⟩
theorem Mid.below (h : Mid W7 W Pr b Rz bt bn ws vs turn pre) (hrP : Pr Rz) (hB : Below W.heap.size W W') : Mid W7 W' Pr b Rz bt bn ws vs turn pre :=
  h.kept hrP (h.alone.below hB) (Chg.mono (Chg.of_below (fun _ => False) hB) (fun _ _ hf => hf.elim))
/-- One more has come. -/
theorem Mid.next (h : Mid W7 W Pr b Rz bt bn ws vs turn pre) (hnP : ¬ Pr bn) (hrP : Pr Rz) (hnt : bn ≠ bt) {x : Vt} (hp : pre ++ [x] <+: vs) : Mid W7 (W.setCell ⟨bn, 0, none⟩ (.int .i64 ((pre.length : Int) + 1))) Pr b Rz bt bn ws vs turn (pre ++ [x]) :=
  have hne : Rz ≠ bn := fun e => hnP (e ▸ hrP)
  ⟨hp, by rw [World.cell?_setCell_same _ _ _ h.n]; simp, (World.frozen?_setCell _ _ _ _).trans h.nf, (World.cell?_setCell_other _ _ _ _ (fun e => hnt (congrArg Addr.block e))).trans h.t, (World.frozen?_setCell _ _ _ _).trans h.tf,
    (World.cell?_setCell_other _ _ _ _ (fun e => hne (congrArg Addr.block e).symm)).trans h.r, (World.frozen?_setCell _ _ _ _).trans h.rf, h.alone.setCell (p := ⟨bn, 0, none⟩) (.inr (.inl rfl)) _, h.chg.setCell (p := ⟨bn, 0, none⟩) (.inl hnP) _⟩
end

theorem Vt.eq_of_is {a b : Vt} (h : a.is b = true) : a = b := by
  cases a; cases b
  simp [Vt.is] at h
  simp [h]

theorem pre_snoc {pre vs : List Vt} {y : Vt} (h : pre <+: vs) (hz : vs[pre.length]? = some y) : pre ++ [y] <+: vs := by
  obtain ⟨t, rfl⟩ := h
  cases t with
  | nil => simp at hz
  | cons a t =>
    simp at hz
    subst hz
    exact ⟨t, by simp⟩
theorem pre_last {pre vs : List Vt} {y : Vt} (h : pre ++ [y] <+: vs) : vs[pre.length]? = some y := by
  obtain ⟨t, rfl⟩ := h
  simp

set_option maxRecDepth 100000 in
set_option maxHeartbeats 8000000 in
theorem rng (code : Code) (hcode : Tryz.f4.body.bind (rfAt 92) = some code) (turn : Int) (hturn : turn = 0 ∨ turn = 1) (L Rz bx x b rb bw Bx bt bn : Nat) (v' : Value) (lv : Int) (ws : List Int) (vs : List Vt) (rvp : Option Addr) (rvc : Nat) (rpp : Option Addr) (rpn rpc : Nat) (Pr : Nat → Prop) (W7 : World)
    (hF : Fixed W7 Pr L Rz bx x b rb bw Bx v' lv vs rvp rvc rpp rpn rpc) (hok : okW ws = true) (hM : Mid W7 W7 Pr b Rz bt bn ws vs turn []) (hnP : ¬ Pr bn) (hrP : Pr Rz) (hnt : bn ≠ bt)
    (c0 c1 c2 c3 c4 c7 c8 c10 c11 c16 c17 c18 c19 c20 c21 c22 c23 c24 c25 c26 c27 c28 c29 c30 c31 c32 c33 c34 c35 c36 c37 c38 c39 c40 c41 c42 c43 c44 c45 c46 c47 c48 c49 c50 c51 c52 c53 c54 c55 c56 c57 c58 c59 c60 c61 c62 c63 c64 c65 c66 c67 c68 c69 c70 c71 c72 c73 c74 c75 c76 c77 c78 c79 c80 c81 c82 c83 c84 c85 c86 c87 c88 c89 c90 c91 c93 c94 c95 c96 c97 c98 c99 c100 c101 c102 c103 c104 c105 c106 c107 c108 c109 c110 c111 c112 c113 c114 c115 c116 c117 c118 c119 c120 c121 c122 c123 c124 c125 c126 c127 c128 c129 c130 c131 c132 c133 c134 c135 c136 c137 c138 c139 c140 c141 c142 c143 c144 c145 c146 c147 c148 : Value) (ds : List Deferred) (Q : Exit → Act → World → Prop)
    (hQ : ∀ (D : Nat) (W : World), W7.heap.size ≤ D → Mid W7 W Pr b Rz bt bn ws vs turn vs → W.heap[D]? = some (.deferred (some [])) → Q .normal { tmps := #[c0, c1, c2, c3, c4, .pointer (some ⟨L, 0, none⟩), .pointer (some ⟨Rz, 0, none⟩), c7, c8, .pointer (some ⟨bx, 0, none⟩), c10, c11, .func (.func 68) #[] #[.pointer (some ⟨Bx, 0, none⟩)], .pointer (some ⟨bw, 0, none⟩), .pointer (some ⟨bt, 0, none⟩), .pointer (some ⟨bn, 0, none⟩), c16, c17, c18, c19, c20, c21, c22, c23, c24, c25, c26, c27, c28, c29, c30, c31, c32, c33, c34, c35, c36, c37, c38, c39, c40, c41, c42, c43, c44, c45, c46, c47, c48, c49, c50, c51, c52, c53, c54, c55, c56, c57, c58, c59, c60, c61, c62, c63, c64, c65, c66, c67, c68, c69, c70, c71, c72, c73, c74, c75, c76, c77, c78, c79, c80, c81, c82, c83, c84, c85, c86, c87, c88, c89, c90, c91, .func (.func 68) #[] #[.pointer (some ⟨Bx, 0, none⟩)], c93, c94, c95, c96, c97, c98, c99, c100, c101, c102, c103, c104, c105, c106, c107, c108, c109, c110, c111, c112, c113, c114, c115, c116, c117, c118, c119, c120, c121, c122, c123, c124, c125, c126, c127, c128, c129, c130, c131, c132, c133, c134, c135, c136, c137, c138, c139, c140, c141, c142, c143, c144, c145, c146, c147, c148], defers := { target := .collected D, args := #[] } :: ds } W)
    (hX : turn = 0 → ∀ (D : Nat) (pre : List Vt) (W : World), W7.heap.size ≤ D → Mid W7 W Pr b Rz bt bn ws vs turn pre → W.heap[D]? = some (.deferred (some [])) → lv < pre.length → Q (.exit 6) { tmps := #[c0, c1, c2, c3, c4, .pointer (some ⟨L, 0, none⟩), .pointer (some ⟨Rz, 0, none⟩), c7, c8, .pointer (some ⟨bx, 0, none⟩), c10, c11, .func (.func 68) #[] #[.pointer (some ⟨Bx, 0, none⟩)], .pointer (some ⟨bw, 0, none⟩), .pointer (some ⟨bt, 0, none⟩), .pointer (some ⟨bn, 0, none⟩), c16, c17, c18, c19, c20, c21, c22, c23, c24, c25, c26, c27, c28, c29, c30, c31, c32, c33, c34, c35, c36, c37, c38, c39, c40, c41, c42, c43, c44, c45, c46, c47, c48, c49, c50, c51, c52, c53, c54, c55, c56, c57, c58, c59, c60, c61, c62, c63, c64, c65, c66, c67, c68, c69, c70, c71, c72, c73, c74, c75, c76, c77, c78, c79, c80, c81, c82, c83, c84, c85, c86, c87, c88, c89, c90, c91, .func (.func 68) #[] #[.pointer (some ⟨Bx, 0, none⟩)], c93, c94, c95, c96, c97, c98, c99, c100, c101, c102, c103, c104, c105, c106, c107, c108, c109, c110, c111, c112, c113, c114, c115, c116, c117, c118, c119, c120, c121, c122, c123, c124, c125, c126, c127, c128, c129, c130, c131, c132, c133, c134, c135, c136, c137, c138, c139, c140, c141, c142, c143, c144, c145, c146, c147, c148], defers := { target := .collected D, args := #[] } :: ds } W) :
    code.wpIn Fence.wide 9 Tryz.prog Q { tmps := #[c0, c1, c2, c3, c4, .pointer (some ⟨L, 0, none⟩), .pointer (some ⟨Rz, 0, none⟩), c7, c8, .pointer (some ⟨bx, 0, none⟩), c10, c11, .func (.func 68) #[] #[.pointer (some ⟨Bx, 0, none⟩)], .pointer (some ⟨bw, 0, none⟩), .pointer (some ⟨bt, 0, none⟩), .pointer (some ⟨bn, 0, none⟩), c16, c17, c18, c19, c20, c21, c22, c23, c24, c25, c26, c27, c28, c29, c30, c31, c32, c33, c34, c35, c36, c37, c38, c39, c40, c41, c42, c43, c44, c45, c46, c47, c48, c49, c50, c51, c52, c53, c54, c55, c56, c57, c58, c59, c60, c61, c62, c63, c64, c65, c66, c67, c68, c69, c70, c71, c72, c73, c74, c75, c76, c77, c78, c79, c80, c81, c82, c83, c84, c85, c86, c87, c88, c89, c90, c91, .func (.func 68) #[] #[.pointer (some ⟨Bx, 0, none⟩)], c93, c94, c95, c96, c97, c98, c99, c100, c101, c102, c103, c104, c105, c106, c107, c108, c109, c110, c111, c112, c113, c114, c115, c116, c117, c118, c119, c120, c121, c122, c123, c124, c125, c126, c127, c128, c129, c130, c131, c132, c133, c134, c135, c136, c137, c138, c139, c140, c141, c142, c143, c144, c145, c146, c147, c148], defers := ds } W7 := by
  conv at hcode => lhs; whnf
  simp only [Option.some.injEq] at hcode
  subst hcode
  dsimp only at hQ hX ⊢
  have hl3 := hF.snap.len
  refine wpIn_rangeFunc_ownH rfl (by omega) (gf := 68) (lb := #[.pointer (some ⟨Bx, 0, none⟩)]) rfl trivial (enters_of Tryz.func68 (by kernel_rfl) rfl)
    (each_stops 8 Bx v' vs W7 hF.snap) (fun h1 h2 k hk => (h2 k hk).trans (h1 k hk)) (fun W l o o' hl _ _ _ k hk => World.putObj_heap_other (by have := hF.lt k (hF.ps k hk); omega)) (Below.refl _ _) (fun _ => rfl)
    (fun pre W => Mid W7 W Pr b Rz bt bn ws vs turn pre) (fun c pre W => (c = .exit 6 ∧ turn = 0 ∧ lv < pre.length ∧ Mid W7 W Pr b Rz bt bn ws vs turn pre) ∨ (c = .ret ∧ ¬ pre <+: vs)) (Mid.own hF.lt)
    (fun c pre W W' row hs hg hr => hs.elim (fun hs => .inl ⟨hs.1, hs.2.1, hs.2.2.1, Mid.own hF.lt pre W W' row hs.2.2.2 hg hr⟩) .inr) hM
    (fun x a' W => ∃ Bv, W.cell? ⟨Bv, 0, none⟩ = some (I64 x.v) ∧ W.cell? ⟨Bv, 1, none⟩ = some (I64 x.s) ∧ W.cell? ⟨Bv, 2, none⟩ = some (I64 x.t) ∧ a' = { tmps := #[c0, c1, c2, c3, c4, .pointer (some ⟨L, 0, none⟩), .pointer (some ⟨Rz, 0, none⟩), c7, c8, .pointer (some ⟨bx, 0, none⟩), c10, c11, .func (.func 68) #[] #[.pointer (some ⟨Bx, 0, none⟩)], .pointer (some ⟨bw, 0, none⟩), .pointer (some ⟨bt, 0, none⟩), .pointer (some ⟨bn, 0, none⟩), .pointer (some ⟨Bv, 0, none⟩), c17, c18, c19, c20, c21, c22, c23, c24, c25, c26, c27, c28, c29, c30, c31, c32, c33, c34, c35, c36, c37, c38, c39, c40, c41, c42, c43, c44, c45, c46, c47, c48, c49, c50, c51, c52, c53, c54, c55, c56, c57, c58, c59, c60, c61, c62, c63, c64, c65, c66, c67, c68, c69, c70, c71, c72, c73, c74, c75, c76, c77, c78, c79, c80, c81, c82, c83, c84, c85, c86, c87, c88, c89, c90, c91, .func (.func 68) #[] #[.pointer (some ⟨Bx, 0, none⟩)], x.val, c94, c95, c96, c97, c98, c99, c100, c101, c102, c103, c104, c105, c106, c107, c108, c109, c110, c111, c112, c113, c114, c115, c116, c117, c118, c119, c120, c121, c122, c123, c124, c125, c126, c127, c128, c129, c130, c131, c132, c133, c134, c135, c136, c137, c138, c139, c140, c141, c142, c143, c144, c145, c146, c147, c148], defers := [] })
    (fun x a' u W W' row hs hg hr => by
      obtain ⟨Bv, h0, h1, h2, h3⟩ := hs
      have hr' : ∀ r, row = some r → ∃ o : Obj, W.heap[r]? = some o ∧ o.isCells = false := fun r e => (hr r e).2
      exact ⟨Bv, cell_kept h0 hg hr', cell_kept h1 hg hr', cell_kept h2 hg hr', h3⟩) ?assign ?body ?done ?stop
  case assign =>
    intro l pre x W K hI hK
    dsimp only
    gi_wp2
    have hB : Below W.heap.size W (W.alloc (.cells #[.int .i64 x.v, .int .i64 x.s, .int .i64 x.t] 47)) := (Below.refl _ _).alloc (Nat.le_refl _) _
    refine hK _ _ ⟨hB.size, fun k o _ hk _ => (hB.block k (Array.getElem?_eq_some_iff.1 hk).1).trans hk⟩ (fun k hk => hB.block k (Nat.lt_of_lt_of_le (hF.lt k (hF.ps k hk)) hI.chg.size)) (hI.below hrP hB) ⟨W.heap.size, by simp [go_sem], by simp [go_sem], by simp [go_sem], rfl⟩
  case body =>
    rintro l pre y a' W hl ⟨rr, hrr⟩ hI ⟨Bv, y0, y1, y2, rfl⟩ hlt
    have hFW := hF.kept hI.chg
    obtain ⟨gv, cap, hgv, _, _, hc, _⟩ := vrow_open hFW.want (by omega)
    simp only [Value.slice.injEq, true_and] at hgv
    obtain ⟨rfl, rfl⟩ := hgv
    obtain ⟨z, hz⟩ : ∃ z, vs[pre.length]? = some z := ⟨_, List.getElem?_eq_getElem hlt⟩
    obtain ⟨z0, z1, z2⟩ := hc _ z hz
    have hn := hI.n
    have hw := hFW.fw
    have hlt' : (pre.length : Int) < vs.length := by omega
    have HZ : Hid (vs[pre.length]? = some z) := hz
    clear hz hc hrr
    have hmix : Tryz.prog.follows .mixedOrders = true := by kernel_rfl
    have hfn : Fence.wide.fn 14 := trivial
    have hfn2 : Fence.wide.fn 13 := trivial
    have hfn3 : Fence.wide.fn 15 := trivial
    have hnn : 1 ≤ 9 - 1 - 1 := by omega
    clear hQ hX
    dsimp only
    gi_wp2_with fail
    obtain ⟨Q31, hQ31⟩ : ∃ Q31 : Exit → Act → World → Prop, Hid (Q31 = fun e a' w' => e = .normal ∧ (∃ u94 u95 u96 u97 u98 u99 u100 u101 u102 u103 : Value, a' = { tmps := #[c0, c1, c2, c3, c4, .pointer (some ⟨L, 0, none⟩), .pointer (some ⟨Rz, 0, none⟩), c7, c8, .pointer (some ⟨bx, 0, none⟩), c10, c11, .func (.func 68) #[] #[.pointer (some ⟨Bx, 0, none⟩)], .pointer (some ⟨bw, 0, none⟩), .pointer (some ⟨bt, 0, none⟩), .pointer (some ⟨bn, 0, none⟩), .pointer (some ⟨Bv, 0, none⟩), .bool (y.is z), c18, c19, c20, c21, c22, c23, c24, c25, c26, c27, c28, c29, c30, c31, c32, c33, c34, c35, c36, c37, c38, c39, c40, c41, c42, c43, c44, c45, c46, c47, c48, c49, c50, c51, c52, c53, c54, c55, c56, c57, c58, c59, c60, c61, c62, c63, c64, c65, c66, c67, c68, c69, c70, c71, c72, c73, c74, c75, c76, c77, c78, c79, c80, c81, c82, c83, c84, c85, c86, c87, c88, c89, c90, c91, .func (.func 68) #[] #[.pointer (some ⟨Bx, 0, none⟩)], y.val, u94, u95, u96, u97, u98, u99, u100, u101, u102, u103, c104, c105, c106, c107, c108, c109, c110, c111, c112, c113, c114, c115, c116, c117, c118, c119, c120, c121, c122, c123, c124, c125, c126, c127, c128, c129, c130, c131, c132, c133, c134, c135, c136, c137, c138, c139, c140, c141, c142, c143, c144, c145, c146, c147, c148], defers := [] }) ∧ Below W.heap.size W w') := ⟨_, rfl⟩
    refine wpIn_mono (Q := NoPanic Q31) ?_ ?_
    · gi_region_with_o ((gi_at_call 14; refine (CallsIn.inRound l (callsIn_wide.2 (sameVotes_at y z _))).mono ?_; rintro e w8 ⟨rfl, hB8⟩))
      all_goals (refine NoPanic.normal ?_; rw [hQ31.out]; exact ⟨rfl, ⟨_, _, _, _, _, _, _, _, _, _, rfl⟩, (Below.drew (Below.refl _ _)).trans hB8⟩)
    rintro e a' W1 hq
    rw [hQ31.out] at hq
    clear hQ31 Q31
    obtain ⟨rfl, ⟨u94, u95, u96, u97, u98, u99, u100, u101, u102, u103, rfl⟩, hB1⟩ := NoPanic.imp _ _ _ hq
    clear hq y0 y1 y2 z0 z1 z2 hn hw hFW
    have hI1 := hI.below hrP hB1
    have hK1 : KeepsFrom W7.heap.size W W1 := ⟨hB1.size, fun k o _ hk _ => (hB1.block k (Array.getElem?_eq_some_iff.1 hk).1).trans hk⟩
    have hc1 : Chg (fun k => ¬ Pr k) W W1 := Chg.mono (Chg.of_below (fun _ => False) hB1) (fun _ _ hf => hf.elim)
    have n1 := hI1.n
    have nf1 := hI1.nf
    have hbn : bn < W1.heap.size := World.block_lt_of_cell? W1 _ n1
    cases hyz : y.is z
    · have HYZ : Hid (y.is z = false) := hyz
      clear hyz
      have r1 := hI1.r
      have rf1 := hI1.rf
      have hrl : Rz < W1.heap.size := World.block_lt_of_cell? W1 _ r1
      dsimp only
      gi_wp2
      refine ⟨hK1.trans ((KeepsOthers.setCell _ _ _).from _), .inr ⟨rfl, fun hp => ?_⟩⟩
      have h1 := HZ.out
      rw [pre_last hp] at h1
      cases h1
      have h2 := HYZ.out
      simp [Vt.is] at h2
    have hp : pre ++ [y] <+: vs := pre_snoc hI.isPre (by rw [Vt.eq_of_is hyz]; exact HZ.out)
    clear hyz
    have hI2 := hI1.next hnP hrP hnt hp
    have hK2 : KeepsFrom W7.heap.size W (W1.setCell ⟨bn, 0, none⟩ (.int .i64 ((pre.length : Int) + 1))) := hK1.trans ((KeepsOthers.setCell _ _ _).from _)
    have hc2 : Chg (fun k => ¬ Pr k) W (W1.setCell ⟨bn, 0, none⟩ (.int .i64 ((pre.length : Int) + 1))) := hc1.trans ((Chg.refl _ _).setCell (p := ⟨bn, 0, none⟩) (.inl hnP) _)
    have hF2 := hF.kept hI2.chg
    have t2 := hI2.t
    have n2 : (W1.setCell ⟨bn, 0, none⟩ (.int .i64 ((pre.length : Int) + 1))).cell? ⟨bn, 0, none⟩ = some (.int .i64 ((pre.length : Int) + 1)) := by rw [hI2.n]; simp
    have L2 := hF2.fL
    have b2 := hF2.fb
    have s2 : snapKeep Bx v' W (W1.setCell ⟨bn, 0, none⟩ (.int .i64 ((pre.length : Int) + 1))) := fun k hk => hc2.block k (Nat.lt_of_lt_of_le (hF.lt k (hF.ps k hk)) hI.chg.size) (fun hn => hn (hF.ps k hk))
    have hov : (pre.length : Int) + 1 ≤ 9223372036854775807 := by omega
    rcases hturn with rfl | rfl
    · by_cases hlv : lv < (pre.length : Int) + 1
      · dsimp only
        gi_wp2
        exact ⟨hK2, .inl ⟨rfl, (by rw [List.length_append]; simp; omega), hI2⟩⟩
      · dsimp only
        gi_wp2
        exact ⟨hK2, s2, hI2⟩
    · dsimp only
      gi_wp2_with fail
      obtain ⟨W2, hW2⟩ : ∃ W2, W1.setCell ⟨bn, 0, none⟩ (.int .i64 ((pre.length : Int) + 1)) = W2 := ⟨_, rfl⟩
      rw [hW2] at hI2 hK2 hc2 hF2 t2 n2 L2 b2 s2 ⊢
      clear hW2
      have x02 := hF2.fx0
      have x12 := hF2.fx1
      have r12 := hF2.fr1
      refine r36 _ (by rfl) l bx x b rb ws _ _ _ (fun k => Pr k ∨ k = bn ∨ k = bt) W2 hok b2 x02 x12 r12 hI2.alone _ _ _ _ _ _ _ _ _ _ _ _ _ _ _ _ _ _ _ _ _ _ _ _ _ _ _ _ _ _ _ _ _ _ _ _ _ _ _ _ _ _ _ _ _ _ _ _ _ _ _ _ _ _ _ _ _ _ _ _ _ _ _ _ _ _ _ _ _ _ _ _ _ _ _ _ _ _ _ _ _ _ _ _ _ _ _ _ _ _ _ _ _ _ _ _ _ _ _ _ _ _ _ _ _ _ _ _ _ _ _ _ _ _ _ _ _ _ _ _ _ _ _ _ _ _ _ _ _ _ _ _ _ _ _ _ _ _ _ _ _ _ _ _ _ _ _ _ _ _ ?_
      intro u110 u111 u112 u113 u114 u115 u116 u117 u118 u119 u120 u121 u122 W3 hA3 hc3 hk3
      clear t2 n2 L2 b2 x02 x12 r12
      have hI3 := hI2.kept hrP hA3 hc3
      have hF3 := hF.kept hI3.chg
      have b3 := hF3.fb
      have x03 := hF3.fx0
      dsimp only
      gi_wp2_with fail
      refine (CallsIn.inRound l (callsIn_wide.2 (hA3.just hok))).mono ?_
      rintro e W4 ⟨⟨v4, rfl⟩, hA4, hc4, hk4⟩
      have hI4 := hI3.kept hrP hA4 hc4
      have hF4 := hF.kept hI4.chg
      have t4 := hI4.t
      gi_wp2
      refine ⟨(hK2.trans (hk3.from _)).trans (hk4.from _), fun k hk => ?_, hI4⟩
      have hPk : Pr k ∨ k = bn ∨ k = bt := .inl (hF.ps k hk)
      have hkl : k < W2.heap.size := Nat.lt_of_lt_of_le (hF.lt k (hF.ps k hk)) hI2.chg.size
      exact ((hc4.block k (Nat.lt_of_lt_of_le hkl hc3.size) (fun hn => hn hPk)).trans (hc3.block k hkl (fun hn => hn hPk))).trans (s2 k hk)
  case done =>
    rintro D xs W hD rfl hI hK
    exact hQ D W hD hI hK
  case stop =>
    rintro D c pre W hD hpre (⟨rfl, ht, hlt, hI⟩ | ⟨rfl, hn⟩) hK
    · gi_wp2
      exact hX ht D pre W hD hI hK hlt
    · exact absurd hpre hn
end Go.Proofs.YtgebcnnenhgkcaaGreat
