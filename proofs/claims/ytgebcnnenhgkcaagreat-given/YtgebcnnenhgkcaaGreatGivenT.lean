/- One turn of Given's last loop. -/
import Derived.Test.YtgebcnnenhgkcaaGreatGivenR
namespace Go.Proofs.YtgebcnnenhgkcaaGreat
open Go.RowKit Go.Shelf
attribute [local go_sem] Oper.semAt_some

/-- What is gone through by the loop that has a region of a number. -/
def lpAt (n : Nat) : Code → Option Code
  | .seq a b => match lpAt n a with
    | some c => some c
    | none => lpAt n b
  | .loop c => if (rgAt n c).isSome then some c else none
  | .block _ c => lpAt n c
  | .scope c => lpAt n c
  | .cond _ a b => match lpAt n a with
    | some c => some c
    | none => lpAt n b
  | _ => none

/-- At the loop's head. -/
structure Turn (W : World) (Pr : Nat → Prop) (b Rz bt : Nat) (ws : List Int) (turn : Int) : Prop where
  t : W.cell? ⟨bt, 0, none⟩ = some (.int .i64 turn)
  tf : W.frozen? ⟨bt, 0, none⟩ = false
  tp : ¬ Pr bt
  r : W.cell? ⟨Rz, 0, none⟩ = some (.bool false)
  rf : W.frozen? ⟨Rz, 0, none⟩ = false
  rp : Pr Rz
  alone : Alone W (fun k => Pr k ∨ k = bt) b ws

section
variable {W7 W' : World} {Pr : Nat → Prop} {b Rz bt bn L bx x rb bw Bx : Nat} {v' : Value} {lv : Int} {rvp : Option Addr} {rvc : Nat} {rpp : Option Addr} {rpn rpc : Nat} {ws : List Int} {vs : List Vt} {turn : Int} {pre : List Vt}

/-- Behind the votes, the turn's number is laid anew. -/
theorem Mid.toTurn (hM : Mid W7 W' Pr b Rz bt bn ws vs turn pre) (hrP : Pr Rz) (hlt : ∀ k, Pr k → k < W'.heap.size) (nx : Int) : Turn (W'.alloc (.cells #[.int .i64 nx] 3)) Pr b Rz W'.heap.size ws nx := by
  have hB : Below W'.heap.size W' (W'.alloc (.cells #[.int .i64 nx] 3)) := (Below.refl _ _).alloc (Nat.le_refl _) _
  refine ⟨by simp [go_sem], by simp [go_sem], fun hp => by have := hlt _ hp; omega, cell_alloc _ hM.r, (hB.frozen (p := ⟨Rz, 0, none⟩) (hlt Rz hrP)).trans hM.rf, hrP, (hM.alone.guard _).weaken ?_⟩
  rintro k (h | h)
  · exact .inl (.inl h)
  · exact .inr h
end

set_option maxRecDepth 100000 in
set_option maxHeartbeats 8000000 in
theorem turn_at (code : Code) (hcode : Tryz.f4.body.bind (lpAt 24) = some code) (turn : Int) (hturn : turn = 0 ∨ turn = 1) (L Rz bx x b rb bw Bx bt : Nat) (v' : Value) (lv : Int) (ws : List Int) (vs : List Vt) (rvp : Option Addr) (rvc : Nat) (rpp : Option Addr) (rpn rpc : Nat) (Pr : Nat → Prop) (W : World)
    (hF : Fixed W Pr L Rz bx x b rb bw Bx v' lv vs rvp rvc rpp rpn rpc) (hok : okW ws = true) (hT : Turn W Pr b Rz bt ws turn)
    (c0 c1 c2 c3 c4 c7 c8 c10 c11 c15 c16 c17 c18 c19 c20 c21 c22 c23 c24 c25 c26 c27 c28 c29 c30 c31 c32 c33 c34 c35 c36 c37 c38 c39 c40 c41 c42 c43 c44 c45 c46 c47 c48 c49 c50 c51 c52 c53 c54 c55 c56 c57 c58 c59 c60 c61 c62 c63 c64 c65 c66 c67 c68 c69 c70 c71 c72 c73 c74 c75 c76 c77 c78 c79 c80 c81 c82 c83 c84 c85 c86 c87 c88 c89 c90 c91 c92 c93 c94 c95 c96 c97 c98 c99 c100 c101 c102 c103 c104 c105 c106 c107 c108 c109 c110 c111 c112 c113 c114 c115 c116 c117 c118 c119 c120 c121 c122 c123 c124 c125 c126 c127 c128 c129 c130 c131 c132 c133 c134 c135 c136 c137 c138 c139 c140 c141 c142 c143 c144 c145 c146 c147 c148 : Value) (ds : List Deferred) (Q : Exit → Act → World → Prop)
    (hQ : ∀ (D bt' : Nat) (u15 u88 u89 u90 u91 u92 u135 u136 u137 u138 u139 u140 u141 u142 u143 u144 u145 u146 u147 u148 : Value) (W' : World), W.heap.size ≤ D → Turn W' Pr b Rz bt' ws (turn + 1) → Chg (fun k => ¬ Pr k) W W' → W'.heap[D]? = some (.deferred (some [])) → Q .normal { tmps := #[c0, c1, c2, c3, c4, .pointer (some ⟨L, 0, none⟩), .pointer (some ⟨Rz, 0, none⟩), c7, c8, .pointer (some ⟨bx, 0, none⟩), c10, c11, .func (.func 68) #[] #[.pointer (some ⟨Bx, 0, none⟩)], .pointer (some ⟨bw, 0, none⟩), .pointer (some ⟨bt', 0, none⟩), u15, c16, c17, c18, c19, c20, c21, c22, c23, c24, c25, c26, c27, c28, c29, c30, c31, c32, c33, c34, c35, c36, c37, c38, c39, c40, c41, c42, c43, c44, c45, c46, c47, c48, c49, c50, c51, c52, c53, c54, c55, c56, c57, c58, c59, c60, c61, c62, c63, c64, c65, c66, c67, c68, c69, c70, c71, c72, c73, c74, c75, c76, c77, c78, c79, c80, c81, c82, c83, c84, c85, c86, c87, u88, u89, u90, u91, u92, c93, c94, c95, c96, c97, c98, c99, c100, c101, c102, c103, c104, c105, c106, c107, c108, c109, c110, c111, c112, c113, c114, c115, c116, c117, c118, c119, c120, c121, c122, c123, c124, c125, c126, c127, c128, c129, c130, c131, c132, c133, c134, u135, u136, u137, u138, u139, u140, u141, u142, u143, u144, u145, u146, u147, u148], defers := { target := .collected D, args := #[] } :: ds } W') :
    code.wpIn Fence.wide 9 Tryz.prog Q { tmps := #[c0, c1, c2, c3, c4, .pointer (some ⟨L, 0, none⟩), .pointer (some ⟨Rz, 0, none⟩), c7, c8, .pointer (some ⟨bx, 0, none⟩), c10, c11, .func (.func 68) #[] #[.pointer (some ⟨Bx, 0, none⟩)], .pointer (some ⟨bw, 0, none⟩), .pointer (some ⟨bt, 0, none⟩), c15, c16, c17, c18, c19, c20, c21, c22, c23, c24, c25, c26, c27, c28, c29, c30, c31, c32, c33, c34, c35, c36, c37, c38, c39, c40, c41, c42, c43, c44, c45, c46, c47, c48, c49, c50, c51, c52, c53, c54, c55, c56, c57, c58, c59, c60, c61, c62, c63, c64, c65, c66, c67, c68, c69, c70, c71, c72, c73, c74, c75, c76, c77, c78, c79, c80, c81, c82, c83, c84, c85, c86, c87, c88, c89, c90, c91, c92, c93, c94, c95, c96, c97, c98, c99, c100, c101, c102, c103, c104, c105, c106, c107, c108, c109, c110, c111, c112, c113, c114, c115, c116, c117, c118, c119, c120, c121, c122, c123, c124, c125, c126, c127, c128, c129, c130, c131, c132, c133, c134, c135, c136, c137, c138, c139, c140, c141, c142, c143, c144, c145, c146, c147, c148], defers := ds } W := by
  conv at hcode => lhs; whnf
  simp only [Option.some.injEq] at hcode
  subst hcode
  dsimp only at hQ ⊢
  have HQ : Hid (∀ (D bt' : Nat) (u15 u88 u89 u90 u91 u92 u135 u136 u137 u138 u139 u140 u141 u142 u143 u144 u145 u146 u147 u148 : Value) (W' : World), W.heap.size ≤ D → Turn W' Pr b Rz bt' ws (turn + 1) → Chg (fun k => ¬ Pr k) W W' → W'.heap[D]? = some (.deferred (some [])) → Q .normal { tmps := #[c0, c1, c2, c3, c4, .pointer (some ⟨L, 0, none⟩), .pointer (some ⟨Rz, 0, none⟩), c7, c8, .pointer (some ⟨bx, 0, none⟩), c10, c11, .func (.func 68) #[] #[.pointer (some ⟨Bx, 0, none⟩)], .pointer (some ⟨bw, 0, none⟩), .pointer (some ⟨bt', 0, none⟩), u15, c16, c17, c18, c19, c20, c21, c22, c23, c24, c25, c26, c27, c28, c29, c30, c31, c32, c33, c34, c35, c36, c37, c38, c39, c40, c41, c42, c43, c44, c45, c46, c47, c48, c49, c50, c51, c52, c53, c54, c55, c56, c57, c58, c59, c60, c61, c62, c63, c64, c65, c66, c67, c68, c69, c70, c71, c72, c73, c74, c75, c76, c77, c78, c79, c80, c81, c82, c83, c84, c85, c86, c87, u88, u89, u90, u91, u92, c93, c94, c95, c96, c97, c98, c99, c100, c101, c102, c103, c104, c105, c106, c107, c108, c109, c110, c111, c112, c113, c114, c115, c116, c117, c118, c119, c120, c121, c122, c123, c124, c125, c126, c127, c128, c129, c130, c131, c132, c133, c134, u135, u136, u137, u138, u139, u140, u141, u142, u143, u144, u145, u146, u147, u148], defers := { target := .collected D, args := #[] } :: ds } W') := hQ
  clear hQ
  have t0 := hT.t
  have hbl : bt < W.heap.size := World.block_lt_of_cell? W _ t0
  obtain ⟨W7, hW7⟩ : ∃ W7, W.alloc (.cells #[.int .i64 0] 3) = W7 := ⟨_, rfl⟩
  have hB7 : Below W.heap.size W W7 := by rw [← hW7]; exact (Below.refl _ _).alloc (Nat.le_refl _) _
  have hc7 : Chg (fun k => ¬ Pr k) W W7 := Chg.of_below _ hB7
  have hF7 := hF.kept hc7
  have hs7 : W7.heap.size = W.heap.size + 1 := by rw [← hW7]; simp
  have hM : Mid W7 W7 Pr b Rz bt W.heap.size ws vs turn [] := by
    refine ⟨List.nil_prefix, by rw [← hW7]; simp [go_sem], by rw [← hW7]; simp [go_sem], (hB7.cell (p := ⟨bt, 0, none⟩) hbl).trans t0, (hB7.frozen (p := ⟨bt, 0, none⟩) hbl).trans hT.tf, (hB7.cell (p := ⟨Rz, 0, none⟩) (hF.lt _ hT.rp)).trans hT.r, (hB7.frozen (p := ⟨Rz, 0, none⟩) (hF.lt _ hT.rp)).trans hT.rf, ?_, Chg.refl _ _⟩
    rw [← hW7]
    refine (hT.alone.guard _).weaken ?_
    rintro k (h | h | h)
    · exact .inl (.inl h)
    · exact .inr h
    · exact .inl (.inr h)
  have hnP : ¬ Pr W.heap.size := fun hp => by have := hF.lt _ hp; omega
  have hnt : W.heap.size ≠ bt := by omega
  have HW7 : Hid (W.alloc (.cells #[.int .i64 0] 3) = W7) := hW7
  clear hW7
  rcases hturn with rfl | rfl
  · gi_wp2_with fail
    rw [HW7.out]
    refine rng _ (by rfl) 0 (.inl rfl) L Rz bx x b rb bw Bx bt W.heap.size v' lv ws vs rvp rvc rpp rpn rpc Pr W7 hF7 hok hM hnP hT.rp hnt _ _ _ _ _ _ _ _ _ _ _ _ _ _ _ _ _ _ _ _ _ _ _ _ _ _ _ _ _ _ _ _ _ _ _ _ _ _ _ _ _ _ _ _ _ _ _ _ _ _ _ _ _ _ _ _ _ _ _ _ _ _ _ _ _ _ _ _ _ _ _ _ _ _ _ _ _ _ _ _ _ _ _ _ _ _ _ _ _ _ _ _ _ _ _ _ _ _ _ _ _ _ _ _ _ _ _ _ _ _ _ _ _ _ _ _ _ _ _ _ _ _ _ _ _ _ _ _ _ _ _ _ _ _ _ _ _ _ _ _ _ _ _ ?done ?stop
    case done =>
      intro D W' hD hM' hK
      have hF' := hF7.kept hM'.chg
      have n' := hM'.n
      have t' := hM'.t
      have w' := hF'.fw
      have HK : Hid (W'.heap[D]? = some (.deferred (some []))) := hK
      clear hK
      gi_wp2_with fail
      exact HQ.out D _ _ _ _ _ _ _ _ _ _ _ _ _ _ _ _ _ _ _ _ _ _ (by omega) (hM'.toTurn hT.rp hF'.lt _) (hc7.trans (hM'.chg.alloc _)) ((Below.heap_alloc _ _ _ (Array.getElem?_eq_some_iff.1 HK.out).1).trans HK.out)
    case stop =>
      intro _ D pre W' hD hM' hK hlv
      have hF' := hF7.kept hM'.chg
      have n' := hM'.n
      have t' := hM'.t
      have w' := hF'.fw
      have l' := hF'.fL
      have HK : Hid (W'.heap[D]? = some (.deferred (some []))) := hK
      clear hK
      by_cases he : (pre.length : Int) = (vs.length : Int)
      · rw [he] at n' hlv
        gi_wp2_with fail
        exact HQ.out D _ _ _ _ _ _ _ _ _ _ _ _ _ _ _ _ _ _ _ _ _ _ (by omega) (hM'.toTurn hT.rp hF'.lt _) (hc7.trans (hM'.chg.alloc _)) ((Below.heap_alloc _ _ _ (Array.getElem?_eq_some_iff.1 HK.out).1).trans HK.out)
      · have hge : ¬ (pre.length : Int) ≤ lv := by omega
        gi_wp2_with fail
        exact HQ.out D _ _ _ _ _ _ _ _ _ _ _ _ _ _ _ _ _ _ _ _ _ _ (by omega) (hM'.toTurn hT.rp hF'.lt _) (hc7.trans (hM'.chg.alloc _)) ((Below.heap_alloc _ _ _ (Array.getElem?_eq_some_iff.1 HK.out).1).trans HK.out)
  · gi_wp2_with fail
    rw [HW7.out]
    refine rng _ (by rfl) 1 (.inr rfl) L Rz bx x b rb bw Bx bt W.heap.size v' lv ws vs rvp rvc rpp rpn rpc Pr W7 hF7 hok hM hnP hT.rp hnt _ _ _ _ _ _ _ _ _ _ _ _ _ _ _ _ _ _ _ _ _ _ _ _ _ _ _ _ _ _ _ _ _ _ _ _ _ _ _ _ _ _ _ _ _ _ _ _ _ _ _ _ _ _ _ _ _ _ _ _ _ _ _ _ _ _ _ _ _ _ _ _ _ _ _ _ _ _ _ _ _ _ _ _ _ _ _ _ _ _ _ _ _ _ _ _ _ _ _ _ _ _ _ _ _ _ _ _ _ _ _ _ _ _ _ _ _ _ _ _ _ _ _ _ _ _ _ _ _ _ _ _ _ _ _ _ _ _ _ _ _ _ _ ?done ?stop
    case done =>
      intro D W' hD hM' hK
      have hF' := hF7.kept hM'.chg
      have n' := hM'.n
      have t' := hM'.t
      have w' := hF'.fw
      have HK : Hid (W'.heap[D]? = some (.deferred (some []))) := hK
      clear hK
      gi_wp2_with fail
      exact HQ.out D _ _ _ _ _ _ _ _ _ _ _ _ _ _ _ _ _ _ _ _ _ _ (by omega) (hM'.toTurn hT.rp hF'.lt _) (hc7.trans (hM'.chg.alloc _)) ((Below.heap_alloc _ _ _ (Array.getElem?_eq_some_iff.1 HK.out).1).trans HK.out)
    case stop =>
      intro h
      cases h
set_option maxRecDepth 100000 in
set_option maxHeartbeats 8000000 in
theorem turn_end (code : Code) (hcode : Tryz.f4.body.bind (lpAt 24) = some code) (L Rz bx bw Bx bt : Nat) (W : World) (ht : W.cell? ⟨bt, 0, none⟩ = some (.int .i64 2))
    (c0 c1 c2 c3 c4 c7 c8 c10 c11 c15 c16 c17 c18 c19 c20 c21 c22 c23 c24 c25 c26 c27 c28 c29 c30 c31 c32 c33 c34 c35 c36 c37 c38 c39 c40 c41 c42 c43 c44 c45 c46 c47 c48 c49 c50 c51 c52 c53 c54 c55 c56 c57 c58 c59 c60 c61 c62 c63 c64 c65 c66 c67 c68 c69 c70 c71 c72 c73 c74 c75 c76 c77 c78 c79 c80 c81 c82 c83 c84 c85 c86 c87 c88 c89 c90 c91 c92 c93 c94 c95 c96 c97 c98 c99 c100 c101 c102 c103 c104 c105 c106 c107 c108 c109 c110 c111 c112 c113 c114 c115 c116 c117 c118 c119 c120 c121 c122 c123 c124 c125 c126 c127 c128 c129 c130 c131 c132 c133 c134 c135 c136 c137 c138 c139 c140 c141 c142 c143 c144 c145 c146 c147 c148 : Value) (ds : List Deferred) (Q : Exit → Act → World → Prop) (hQ : ∀ u88 u89 : Value, Q (.exit 4) { tmps := #[c0, c1, c2, c3, c4, .pointer (some ⟨L, 0, none⟩), .pointer (some ⟨Rz, 0, none⟩), c7, c8, .pointer (some ⟨bx, 0, none⟩), c10, c11, .func (.func 68) #[] #[.pointer (some ⟨Bx, 0, none⟩)], .pointer (some ⟨bw, 0, none⟩), .pointer (some ⟨bt, 0, none⟩), c15, c16, c17, c18, c19, c20, c21, c22, c23, c24, c25, c26, c27, c28, c29, c30, c31, c32, c33, c34, c35, c36, c37, c38, c39, c40, c41, c42, c43, c44, c45, c46, c47, c48, c49, c50, c51, c52, c53, c54, c55, c56, c57, c58, c59, c60, c61, c62, c63, c64, c65, c66, c67, c68, c69, c70, c71, c72, c73, c74, c75, c76, c77, c78, c79, c80, c81, c82, c83, c84, c85, c86, c87, u88, u89, c90, c91, c92, c93, c94, c95, c96, c97, c98, c99, c100, c101, c102, c103, c104, c105, c106, c107, c108, c109, c110, c111, c112, c113, c114, c115, c116, c117, c118, c119, c120, c121, c122, c123, c124, c125, c126, c127, c128, c129, c130, c131, c132, c133, c134, c135, c136, c137, c138, c139, c140, c141, c142, c143, c144, c145, c146, c147, c148], defers := ds } W) :
    code.wpIn Fence.wide 9 Tryz.prog Q { tmps := #[c0, c1, c2, c3, c4, .pointer (some ⟨L, 0, none⟩), .pointer (some ⟨Rz, 0, none⟩), c7, c8, .pointer (some ⟨bx, 0, none⟩), c10, c11, .func (.func 68) #[] #[.pointer (some ⟨Bx, 0, none⟩)], .pointer (some ⟨bw, 0, none⟩), .pointer (some ⟨bt, 0, none⟩), c15, c16, c17, c18, c19, c20, c21, c22, c23, c24, c25, c26, c27, c28, c29, c30, c31, c32, c33, c34, c35, c36, c37, c38, c39, c40, c41, c42, c43, c44, c45, c46, c47, c48, c49, c50, c51, c52, c53, c54, c55, c56, c57, c58, c59, c60, c61, c62, c63, c64, c65, c66, c67, c68, c69, c70, c71, c72, c73, c74, c75, c76, c77, c78, c79, c80, c81, c82, c83, c84, c85, c86, c87, c88, c89, c90, c91, c92, c93, c94, c95, c96, c97, c98, c99, c100, c101, c102, c103, c104, c105, c106, c107, c108, c109, c110, c111, c112, c113, c114, c115, c116, c117, c118, c119, c120, c121, c122, c123, c124, c125, c126, c127, c128, c129, c130, c131, c132, c133, c134, c135, c136, c137, c138, c139, c140, c141, c142, c143, c144, c145, c146, c147, c148], defers := ds } W := by
  conv at hcode => lhs; whnf
  simp only [Option.some.injEq] at hcode
  subst hcode
  dsimp only at hQ ⊢
  have HQ : Hid (∀ u88 u89 : Value, Q (.exit 4) { tmps := #[c0, c1, c2, c3, c4, .pointer (some ⟨L, 0, none⟩), .pointer (some ⟨Rz, 0, none⟩), c7, c8, .pointer (some ⟨bx, 0, none⟩), c10, c11, .func (.func 68) #[] #[.pointer (some ⟨Bx, 0, none⟩)], .pointer (some ⟨bw, 0, none⟩), .pointer (some ⟨bt, 0, none⟩), c15, c16, c17, c18, c19, c20, c21, c22, c23, c24, c25, c26, c27, c28, c29, c30, c31, c32, c33, c34, c35, c36, c37, c38, c39, c40, c41, c42, c43, c44, c45, c46, c47, c48, c49, c50, c51, c52, c53, c54, c55, c56, c57, c58, c59, c60, c61, c62, c63, c64, c65, c66, c67, c68, c69, c70, c71, c72, c73, c74, c75, c76, c77, c78, c79, c80, c81, c82, c83, c84, c85, c86, c87, u88, u89, c90, c91, c92, c93, c94, c95, c96, c97, c98, c99, c100, c101, c102, c103, c104, c105, c106, c107, c108, c109, c110, c111, c112, c113, c114, c115, c116, c117, c118, c119, c120, c121, c122, c123, c124, c125, c126, c127, c128, c129, c130, c131, c132, c133, c134, c135, c136, c137, c138, c139, c140, c141, c142, c143, c144, c145, c146, c147, c148], defers := ds } W) := hQ
  clear hQ
  gi_wp2_with fail
  exact HQ.out _ _

section
variable {W : World} {Pr : Nat → Prop} {b Rz bt D L bx x rb bw Bx : Nat} {v' : Value} {lv : Int} {rvp : Option Addr} {rvc : Nat} {rpp : Option Addr} {rpn rpc : Nat} {ws : List Int} {vs : List Vt} {turn : Int} {o : Obj}
/-- What the loop has put aside is kept too. -/
theorem Alone.mark (h : Alone W Pr b ws) (hD : W.heap[D]? = some o) (ho : o.isCells = false) : Alone W (fun k => Pr k ∨ k = D) b ws := by
  obtain ⟨S, ps, vs, wv, pv, vv, h⟩ := h
  refine ⟨S, ps, vs, wv, pv, vv, h.court, h.T, h.len, h.okv, ?_, ?_⟩
  · rintro k hk (h1 | rfl)
    · exact h.low k hk h1
    · have := h.court.cells k o hk hD
      rw [ho] at this; cases this
  · rintro k (h1 | rfl)
    · exact h.le k h1
    · exact (Array.getElem?_eq_some_iff.1 hD).1
theorem Fixed.mark (h : Fixed W Pr L Rz bx x b rb bw Bx v' lv vs rvp rvc rpp rpn rpc) (hD : D < W.heap.size) : Fixed W (fun k => Pr k ∨ k = D) L Rz bx x b rb bw Bx v' lv vs rvp rvc rpp rpn rpc :=
  ⟨h.fL, h.fb, h.fx0, h.fx1, h.fr1, h.fw, h.want, h.snap, .inl h.pL, .inl h.pb, .inl h.px, .inl h.pr, .inl h.pw, fun k hk => .inl (h.pv k hk), fun k hk => .inl (h.ps k hk), fun k hk => hk.elim (h.lt k) (fun e => e ▸ hD)⟩
theorem Turn.mark (h : Turn W Pr b Rz bt ws turn) (hD : W.heap[D]? = some (.deferred (some []))) : Turn W (fun k => Pr k ∨ k = D) b Rz bt ws turn := by
  refine ⟨h.t, h.tf, ?_, h.r, h.rf, .inl h.rp, (h.alone.mark hD rfl).weaken ?_⟩
  · rintro (h1 | rfl)
    · exact h.tp h1
    · have := h.t
      simp [World.cell?, hD] at this
  · rintro k ((h1 | h1) | h1)
    · exact .inl (.inl h1)
    · exact .inr h1
    · exact .inl (.inr h1)
end

set_option maxRecDepth 100000 in
set_option maxHeartbeats 8000000 in
theorem turns (code : Code) (hcode : Tryz.f4.body.bind (lpAt 24) = some code) (L Rz bx x b rb bw Bx bt : Nat) (v' : Value) (lv : Int) (ws : List Int) (vs : List Vt) (rvp : Option Addr) (rvc : Nat) (rpp : Option Addr) (rpn rpc : Nat) (Pr : Nat → Prop) (W : World)
    (hF : Fixed W Pr L Rz bx x b rb bw Bx v' lv vs rvp rvc rpp rpn rpc) (hok : okW ws = true) (hT : Turn W Pr b Rz bt ws 0)
    (c0 c1 c2 c3 c4 c7 c8 c10 c11 c15 c16 c17 c18 c19 c20 c21 c22 c23 c24 c25 c26 c27 c28 c29 c30 c31 c32 c33 c34 c35 c36 c37 c38 c39 c40 c41 c42 c43 c44 c45 c46 c47 c48 c49 c50 c51 c52 c53 c54 c55 c56 c57 c58 c59 c60 c61 c62 c63 c64 c65 c66 c67 c68 c69 c70 c71 c72 c73 c74 c75 c76 c77 c78 c79 c80 c81 c82 c83 c84 c85 c86 c87 c88 c89 c90 c91 c92 c93 c94 c95 c96 c97 c98 c99 c100 c101 c102 c103 c104 c105 c106 c107 c108 c109 c110 c111 c112 c113 c114 c115 c116 c117 c118 c119 c120 c121 c122 c123 c124 c125 c126 c127 c128 c129 c130 c131 c132 c133 c134 c135 c136 c137 c138 c139 c140 c141 c142 c143 c144 c145 c146 c147 c148 : Value) (ds : List Deferred) (Q : Exit → Act → World → Prop)
    (hQ : ∀ (D1 D2 bt' : Nat) (u15 u88 u89 u90 u91 u92 u135 u136 u137 u138 u139 u140 u141 u142 u143 u144 u145 u146 u147 u148 : Value) (W' : World), W.heap.size ≤ D1 → W.heap.size ≤ D2 → D1 ≠ D2 → W'.cell? ⟨Rz, 0, none⟩ = some (.bool false) → W'.frozen? ⟨Rz, 0, none⟩ = false → Chg (fun k => ¬ Pr k) W W' → W'.heap[D1]? = some (.deferred (some [])) → W'.heap[D2]? = some (.deferred (some [])) → Q (.exit 4) { tmps := #[c0, c1, c2, c3, c4, .pointer (some ⟨L, 0, none⟩), .pointer (some ⟨Rz, 0, none⟩), c7, c8, .pointer (some ⟨bx, 0, none⟩), c10, c11, .func (.func 68) #[] #[.pointer (some ⟨Bx, 0, none⟩)], .pointer (some ⟨bw, 0, none⟩), .pointer (some ⟨bt', 0, none⟩), u15, c16, c17, c18, c19, c20, c21, c22, c23, c24, c25, c26, c27, c28, c29, c30, c31, c32, c33, c34, c35, c36, c37, c38, c39, c40, c41, c42, c43, c44, c45, c46, c47, c48, c49, c50, c51, c52, c53, c54, c55, c56, c57, c58, c59, c60, c61, c62, c63, c64, c65, c66, c67, c68, c69, c70, c71, c72, c73, c74, c75, c76, c77, c78, c79, c80, c81, c82, c83, c84, c85, c86, c87, u88, u89, u90, u91, u92, c93, c94, c95, c96, c97, c98, c99, c100, c101, c102, c103, c104, c105, c106, c107, c108, c109, c110, c111, c112, c113, c114, c115, c116, c117, c118, c119, c120, c121, c122, c123, c124, c125, c126, c127, c128, c129, c130, c131, c132, c133, c134, u135, u136, u137, u138, u139, u140, u141, u142, u143, u144, u145, u146, u147, u148], defers := { target := .collected D2, args := #[] } :: { target := .collected D1, args := #[] } :: ds } W') :
    (Code.loop code).wpIn Fence.wide 9 Tryz.prog Q { tmps := #[c0, c1, c2, c3, c4, .pointer (some ⟨L, 0, none⟩), .pointer (some ⟨Rz, 0, none⟩), c7, c8, .pointer (some ⟨bx, 0, none⟩), c10, c11, .func (.func 68) #[] #[.pointer (some ⟨Bx, 0, none⟩)], .pointer (some ⟨bw, 0, none⟩), .pointer (some ⟨bt, 0, none⟩), c15, c16, c17, c18, c19, c20, c21, c22, c23, c24, c25, c26, c27, c28, c29, c30, c31, c32, c33, c34, c35, c36, c37, c38, c39, c40, c41, c42, c43, c44, c45, c46, c47, c48, c49, c50, c51, c52, c53, c54, c55, c56, c57, c58, c59, c60, c61, c62, c63, c64, c65, c66, c67, c68, c69, c70, c71, c72, c73, c74, c75, c76, c77, c78, c79, c80, c81, c82, c83, c84, c85, c86, c87, c88, c89, c90, c91, c92, c93, c94, c95, c96, c97, c98, c99, c100, c101, c102, c103, c104, c105, c106, c107, c108, c109, c110, c111, c112, c113, c114, c115, c116, c117, c118, c119, c120, c121, c122, c123, c124, c125, c126, c127, c128, c129, c130, c131, c132, c133, c134, c135, c136, c137, c138, c139, c140, c141, c142, c143, c144, c145, c146, c147, c148], defers := ds } W := by
  refine wpIn_loop_rounds 3 ?_
  rw [roundsIn_succ]
  refine turn_at code hcode 0 (.inl rfl) L Rz bx x b rb bw Bx bt v' lv ws vs rvp rvc rpp rpn rpc Pr W hF hok hT _ _ _ _ _ _ _ _ _ _ _ _ _ _ _ _ _ _ _ _ _ _ _ _ _ _ _ _ _ _ _ _ _ _ _ _ _ _ _ _ _ _ _ _ _ _ _ _ _ _ _ _ _ _ _ _ _ _ _ _ _ _ _ _ _ _ _ _ _ _ _ _ _ _ _ _ _ _ _ _ _ _ _ _ _ _ _ _ _ _ _ _ _ _ _ _ _ _ _ _ _ _ _ _ _ _ _ _ _ _ _ _ _ _ _ _ _ _ _ _ _ _ _ _ _ _ _ _ _ _ _ _ _ _ _ _ _ _ _ _ _ _ _ _ _ ?_
  intro D1 bt1 u15 u88 u89 u90 u91 u92 u135 u136 u137 u138 u139 u140 u141 u142 u143 u144 u145 u146 u147 u148 W1 hD1 hT1 hc1 hK1
  show Code.roundsIn Fence.wide 9 Tryz.prog code Q 2 _ W1
  rw [roundsIn_succ]
  have hD1l : D1 < W1.heap.size := (Array.getElem?_eq_some_iff.1 hK1).1
  refine turn_at code hcode 1 (.inr rfl) L Rz bx x b rb bw Bx bt1 v' lv ws vs rvp rvc rpp rpn rpc (fun k => Pr k ∨ k = D1) W1 ((hF.kept hc1).mark hD1l) hok (Turn.mark hT1 hK1) _ _ _ _ _ _ _ _ _ _ _ _ _ _ _ _ _ _ _ _ _ _ _ _ _ _ _ _ _ _ _ _ _ _ _ _ _ _ _ _ _ _ _ _ _ _ _ _ _ _ _ _ _ _ _ _ _ _ _ _ _ _ _ _ _ _ _ _ _ _ _ _ _ _ _ _ _ _ _ _ _ _ _ _ _ _ _ _ _ _ _ _ _ _ _ _ _ _ _ _ _ _ _ _ _ _ _ _ _ _ _ _ _ _ _ _ _ _ _ _ _ _ _ _ _ _ _ _ _ _ _ _ _ _ _ _ _ _ _ _ _ _ _ _ _ ?_
  clear u15 u88 u89 u90 u91 u92 u135 u136 u137 u138 u139 u140 u141 u142 u143 u144 u145 u146 u147 u148
  intro D2 bt2 u15 u88 u89 u90 u91 u92 u135 u136 u137 u138 u139 u140 u141 u142 u143 u144 u145 u146 u147 u148 W2 hD2 hT2 hc2 hK2
  show Code.roundsIn Fence.wide 9 Tryz.prog code Q 1 _ W2
  rw [roundsIn_succ]
  refine turn_end code hcode L Rz bx bw Bx bt2 W2 hT2.t _ _ _ _ _ _ _ _ _ _ _ _ _ _ _ _ _ _ _ _ _ _ _ _ _ _ _ _ _ _ _ _ _ _ _ _ _ _ _ _ _ _ _ _ _ _ _ _ _ _ _ _ _ _ _ _ _ _ _ _ _ _ _ _ _ _ _ _ _ _ _ _ _ _ _ _ _ _ _ _ _ _ _ _ _ _ _ _ _ _ _ _ _ _ _ _ _ _ _ _ _ _ _ _ _ _ _ _ _ _ _ _ _ _ _ _ _ _ _ _ _ _ _ _ _ _ _ _ _ _ _ _ _ _ _ _ _ _ _ _ _ _ _ _ _ ?_
  intro u88' u89'
  have hz := hc1.size
  exact hQ D1 D2 bt2 _ _ _ _ _ _ _ _ _ _ _ _ _ _ _ _ _ _ _ _ W2 hD1 (by omega) (by omega) hT2.r hT2.rf (hc1.trans (hc2.mono (fun _ _ hn hp => hn (.inl hp)))) ((hc2.block D1 hD1l (fun hn => hn (.inr rfl))).trans hK1) hK2
end Go.Proofs.YtgebcnnenhgkcaaGreat
