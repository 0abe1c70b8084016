/- A region of the range within Given: the vote in the second turn. -/
import Derived.Test.YtgebcnnenhgkcaaGreatRounds
namespace Go.Proofs.YtgebcnnenhgkcaaGreat
open Go.RowKit Go.Shelf
attribute [local go_sem] Oper.semAt_some

/-- The region of a number, in a code. -/
def rgAt (n : Nat) : Code → Option Code
  | .region m ops d => if m = n then some (.region m ops d) else none
  | .seq a b => match rgAt n a with
    | some c => some c
    | none => rgAt n b
  | .loop c => rgAt n c
  | .block _ c => rgAt n c
  | .scope c => rgAt n c
  | .cond _ a b => match rgAt n a with
    | some c => some c
    | none => rgAt n b
  | .rangeFunc _ _ a b => match rgAt n a with
    | some c => some c
    | none => rgAt n b
  | _ => none

set_option maxRecDepth 100000 in
set_option maxHeartbeats 8000000 in
theorem r36 (code : Code) (hcode : Tryz.f4.body.bind (rgAt 36) = some code) (l bx x b rb : Nat) (ws : List Int) (rpp : Option Addr) (rpn rpc : Nat) (Pr : Nat → Prop) (W : World) (hok : okW ws = true)
    (fb : W.cell? ⟨bx, 0, none⟩ = some (.pointer (some ⟨x, 0, none⟩))) (fx0 : W.cell? ⟨x, 0, none⟩ = some (.pointer (some ⟨b, 0, none⟩))) (fx1 : W.cell? ⟨x, 1, none⟩ = some (.pointer (some ⟨rb, 0, none⟩))) (fr1 : W.cell? ⟨rb, 1, none⟩ = some (.slice rpp rpn rpc)) (hA : Alone W Pr b ws)
    (c0 c1 c2 c3 c4 c5 c6 c7 c8 c10 c11 c12 c13 c14 c15 c16 c17 c18 c19 c20 c21 c22 c23 c24 c25 c26 c27 c28 c29 c30 c31 c32 c33 c34 c35 c36 c37 c38 c39 c40 c41 c42 c43 c44 c45 c46 c47 c48 c49 c50 c51 c52 c53 c54 c55 c56 c57 c58 c59 c60 c61 c62 c63 c64 c65 c66 c67 c68 c69 c70 c71 c72 c73 c74 c75 c76 c77 c78 c79 c80 c81 c82 c83 c84 c85 c86 c87 c88 c89 c90 c91 c92 c93 c94 c95 c96 c97 c98 c99 c100 c101 c102 c103 c104 c105 c106 c107 c108 c109 c110 c111 c112 c113 c114 c115 c116 c117 c118 c119 c120 c121 c122 c123 c124 c125 c126 c127 c128 c129 c130 c131 c132 c133 c134 c135 c136 c137 c138 c139 c140 c141 c142 c143 c144 c145 c146 c147 c148 : Value) (ds : List Deferred) (Q : Exit → Act → World → Prop)
    (hQ : ∀ (u110 u111 u112 u113 u114 u115 u116 u117 u118 u119 u120 u121 u122 : Value) (W' : World), Alone W' Pr b ws → Chg (fun k => ¬ Pr k) W W' → KeepsOthers W W' → Q .normal { tmps := #[c0, c1, c2, c3, c4, c5, c6, c7, c8, .pointer (some ⟨bx, 0, none⟩), c10, c11, c12, c13, c14, c15, c16, c17, c18, c19, c20, c21, c22, c23, c24, c25, c26, c27, c28, c29, c30, c31, c32, c33, c34, c35, c36, c37, c38, c39, c40, c41, c42, c43, c44, c45, c46, c47, c48, c49, c50, c51, c52, c53, c54, c55, c56, c57, c58, c59, c60, c61, c62, c63, c64, c65, c66, c67, c68, c69, c70, c71, c72, c73, c74, c75, c76, c77, c78, c79, c80, c81, c82, c83, c84, c85, c86, c87, c88, c89, c90, c91, c92, c93, c94, c95, c96, c97, c98, c99, c100, c101, c102, c103, c104, c105, c106, c107, c108, c109, u110, u111, u112, u113, u114, u115, u116, u117, u118, u119, u120, u121, u122, c123, c124, c125, c126, c127, c128, c129, c130, c131, c132, c133, c134, c135, c136, c137, c138, c139, c140, c141, c142, c143, c144, c145, c146, c147, c148], defers := ds } W') :
    code.wpIn (Fence.wide.inRound l) 7 Tryz.prog Q { tmps := #[c0, c1, c2, c3, c4, c5, c6, c7, c8, .pointer (some ⟨bx, 0, none⟩), c10, c11, c12, c13, c14, c15, c16, c17, c18, c19, c20, c21, c22, c23, c24, c25, c26, c27, c28, c29, c30, c31, c32, c33, c34, c35, c36, c37, c38, c39, c40, c41, c42, c43, c44, c45, c46, c47, c48, c49, c50, c51, c52, c53, c54, c55, c56, c57, c58, c59, c60, c61, c62, c63, c64, c65, c66, c67, c68, c69, c70, c71, c72, c73, c74, c75, c76, c77, c78, c79, c80, c81, c82, c83, c84, c85, c86, c87, c88, c89, c90, c91, c92, c93, c94, c95, c96, c97, c98, c99, c100, c101, c102, c103, c104, c105, c106, c107, c108, c109, c110, c111, c112, c113, c114, c115, c116, c117, c118, c119, c120, c121, c122, c123, c124, c125, c126, c127, c128, c129, c130, c131, c132, c133, c134, c135, c136, c137, c138, c139, c140, c141, c142, c143, c144, c145, c146, c147, c148], defers := ds } W := by
  conv at hcode => lhs; whnf
  simp only [Option.some.injEq] at hcode
  subst hcode
  dsimp only at hQ ⊢
  have HQ : Hid (∀ (u110 u111 u112 u113 u114 u115 u116 u117 u118 u119 u120 u121 u122 : Value) (W' : World), Alone W' Pr b ws → Chg (fun k => ¬ Pr k) W W' → KeepsOthers W W' → Q .normal { tmps := #[c0, c1, c2, c3, c4, c5, c6, c7, c8, .pointer (some ⟨bx, 0, none⟩), c10, c11, c12, c13, c14, c15, c16, c17, c18, c19, c20, c21, c22, c23, c24, c25, c26, c27, c28, c29, c30, c31, c32, c33, c34, c35, c36, c37, c38, c39, c40, c41, c42, c43, c44, c45, c46, c47, c48, c49, c50, c51, c52, c53, c54, c55, c56, c57, c58, c59, c60, c61, c62, c63, c64, c65, c66, c67, c68, c69, c70, c71, c72, c73, c74, c75, c76, c77, c78, c79, c80, c81, c82, c83, c84, c85, c86, c87, c88, c89, c90, c91, c92, c93, c94, c95, c96, c97, c98, c99, c100, c101, c102, c103, c104, c105, c106, c107, c108, c109, u110, u111, u112, u113, u114, u115, u116, u117, u118, u119, u120, u121, u122, c123, c124, c125, c126, c127, c128, c129, c130, c131, c132, c133, c134, c135, c136, c137, c138, c139, c140, c141, c142, c143, c144, c145, c146, c147, c148], defers := ds } W') := hQ
  clear hQ
  have hA2 : Alone W.drew Pr b ws := hA.below (Below.drew (Below.refl _ _))
  have hmix : Tryz.prog.follows .mixedOrders = true := by kernel_rfl
  have hfn2 : Fence.wide.fn 13 := trivial
  have hnn : 1 ≤ 7 := by omega
  refine wpIn_mono ?_ NoPanic.imp
  refine region_round l (by kernel_rfl) hmix ?_
  refine wpAnyIn_ready (rs := [0, 4]) (by kernel_rfl) (by simp) ?_
  refine AllReadyIn.cons rfl (fun K hK => ?_) ?_
  · go_simp
    refine hK _ _ ?_
    clear hK K
    refine wpAnyIn_take (i := 1) (v := ?vv1) rfl rfl (by kernel_rfl) (by kernel_rfl) (by kernel_rfl) (fun _ _ _ h => h) ⟨Or.inl ⟨by rfl, ?hy1⟩, fun _ => rfl⟩ ?rest1
    case hy1 => (intro w; go_simp; try with_reducible rfl)
    refine wpAnyIn_take (i := 2) (v := ?vv2) rfl rfl (by kernel_rfl) (by kernel_rfl) (by kernel_rfl) (fun _ _ _ h => h) ⟨Or.inl ⟨by rfl, ?hy2⟩, fun _ => rfl⟩ ?rest2
    case hy2 => (intro w; go_simp; try with_reducible rfl)
    refine wpAnyIn_ready (rs := [3, 4]) (by kernel_rfl) (by simp) ?_
    refine AllReadyIn.cons rfl (fun K hK => ?_) ?_
    · go_simp
      refine hK _ _ ?_
      clear hK K
      refine wpAnyIn_ready (rs := [4]) (by kernel_rfl) (by simp) ?_
      refine AllReadyIn.cons rfl (fun K hK => ?_) ?_
      · go_simp
        refine hK _ _ ?_
        clear hK K
        refine wpAnyIn_take (i := 5) (v := ?vv3) rfl rfl (by kernel_rfl) (by kernel_rfl) (by kernel_rfl) (fun _ _ _ h => h) ⟨Or.inl ⟨by rfl, ?hy3⟩, fun _ => rfl⟩ ?rest3
        case hy3 => (intro w; go_simp; try with_reducible rfl)
        refine wpAnyIn_take (i := 6) (v := ?vv4) rfl rfl (by kernel_rfl) (by kernel_rfl) (by kernel_rfl) (fun _ _ _ h => h) ⟨Or.inl ⟨by rfl, ?hy4⟩, fun _ => rfl⟩ ?rest4
        case hy4 => (intro w; go_simp; try with_reducible rfl)
        refine wpAnyIn_ready (rs := [7]) (by kernel_rfl) (by simp) ?_
        refine AllReadyIn.cons rfl (fun K hK => ?_) ?_
        · go_simp
          refine hK _ _ ?_
          clear hK K
          refine wpAnyIn_take (i := 8) (v := ?vv5) rfl rfl (by kernel_rfl) (by kernel_rfl) (by kernel_rfl) (fun _ _ _ h => h) ⟨Or.inl ⟨by rfl, ?hy5⟩, fun _ => rfl⟩ ?rest5
          case hy5 => (intro w; go_simp; try with_reducible rfl)
          refine wpAnyIn_take (i := 9) (v := ?vv6) rfl rfl (by kernel_rfl) (by kernel_rfl) (by kernel_rfl) (fun _ _ _ h => h) ⟨Or.inl ⟨by rfl, ?hy6⟩, fun _ => rfl⟩ ?rest6
          case hy6 => (intro w; go_simp; try with_reducible rfl)
          refine wpAnyIn_ready (rs := [10]) (by kernel_rfl) (by simp) ?_
          refine AllReadyIn.cons rfl (fun K hK => ?_) ?_
          · go_simp
            refine hK _ _ ?_
            clear hK K
            refine wpAnyIn_take (i := 11) (v := ?vv7) rfl rfl (by kernel_rfl) (by kernel_rfl) (by kernel_rfl) (fun _ _ _ h => h) ⟨Or.inl ⟨by rfl, ?hy7⟩, fun _ => rfl⟩ ?rest7
            case hy7 => (intro w; go_simp; try with_reducible rfl)
            refine wpAnyIn_ready (rs := [12]) (by kernel_rfl) (by simp) ?_
            refine AllReadyIn.cons rfl (fun K hK => ?_) ?_
            · go_simp
              gi_wp2_with (gi_at_call 13; refine (callsIn_wide.2 (hA2.vote hok _ _ _)).mono ?_; rintro e w8 ⟨⟨r8, rfl⟩, hA8, hc8, hk8⟩)
              refine wpAnyIn_done (by kernel_rfl) ?_ _
              exact NoPanic.normal (HQ.out _ _ _ _ _ _ _ _ _ _ _ _ _ _ hA8 ((Chg.drew (Chg.refl _ _)).trans hc8) ⟨hk8.size, hk8.same⟩)
            exact AllReadyIn.nil
          exact AllReadyIn.nil
        exact AllReadyIn.nil
      exact AllReadyIn.nil
    refine AllReadyIn.cons rfl (fun K hK => ?_) ?_
    · go_simp
      refine hK _ _ ?_
      clear hK K
      refine wpAnyIn_take (i := 5) (v := ?vv8) rfl rfl (by kernel_rfl) (by kernel_rfl) (by kernel_rfl) (fun _ _ _ h => h) ⟨Or.inl ⟨by rfl, ?hy8⟩, fun _ => rfl⟩ ?rest8
      case hy8 => (intro w; go_simp; try with_reducible rfl)
      refine wpAnyIn_take (i := 6) (v := ?vv9) rfl rfl (by kernel_rfl) (by kernel_rfl) (by kernel_rfl) (fun _ _ _ h => h) ⟨Or.inl ⟨by rfl, ?hy9⟩, fun _ => rfl⟩ ?rest9
      case hy9 => (intro w; go_simp; try with_reducible rfl)
      refine wpAnyIn_ready (rs := [3, 7]) (by kernel_rfl) (by simp) ?_
      refine AllReadyIn.cons rfl (fun K hK => ?_) ?_
      · go_simp
        refine hK _ _ ?_
        clear hK K
        refine wpAnyIn_ready (rs := [7]) (by kernel_rfl) (by simp) ?_
        refine AllReadyIn.cons rfl (fun K hK => ?_) ?_
        · go_simp
          refine hK _ _ ?_
          clear hK K
          refine wpAnyIn_take (i := 8) (v := ?vv10) rfl rfl (by kernel_rfl) (by kernel_rfl) (by kernel_rfl) (fun _ _ _ h => h) ⟨Or.inl ⟨by rfl, ?hy10⟩, fun _ => rfl⟩ ?rest10
          case hy10 => (intro w; go_simp; try with_reducible rfl)
          refine wpAnyIn_take (i := 9) (v := ?vv11) rfl rfl (by kernel_rfl) (by kernel_rfl) (by kernel_rfl) (fun _ _ _ h => h) ⟨Or.inl ⟨by rfl, ?hy11⟩, fun _ => rfl⟩ ?rest11
          case hy11 => (intro w; go_simp; try with_reducible rfl)
          refine wpAnyIn_ready (rs := [10]) (by kernel_rfl) (by simp) ?_
          refine AllReadyIn.cons rfl (fun K hK => ?_) ?_
          · go_simp
            refine hK _ _ ?_
            clear hK K
            refine wpAnyIn_take (i := 11) (v := ?vv12) rfl rfl (by kernel_rfl) (by kernel_rfl) (by kernel_rfl) (fun _ _ _ h => h) ⟨Or.inl ⟨by rfl, ?hy12⟩, fun _ => rfl⟩ ?rest12
            case hy12 => (intro w; go_simp; try with_reducible rfl)
            refine wpAnyIn_ready (rs := [12]) (by kernel_rfl) (by simp) ?_
            refine AllReadyIn.cons rfl (fun K hK => ?_) ?_
            · go_simp
              gi_wp2_with (gi_at_call 13; refine (callsIn_wide.2 (hA2.vote hok _ _ _)).mono ?_; rintro e w8 ⟨⟨r8, rfl⟩, hA8, hc8, hk8⟩)
              refine wpAnyIn_done (by kernel_rfl) ?_ _
              exact NoPanic.normal (HQ.out _ _ _ _ _ _ _ _ _ _ _ _ _ _ hA8 ((Chg.drew (Chg.refl _ _)).trans hc8) ⟨hk8.size, hk8.same⟩)
            exact AllReadyIn.nil
          exact AllReadyIn.nil
        exact AllReadyIn.nil
      refine AllReadyIn.cons rfl (fun K hK => ?_) ?_
      · go_simp
        refine hK _ _ ?_
        clear hK K
        refine wpAnyIn_take (i := 8) (v := ?vv13) rfl rfl (by kernel_rfl) (by kernel_rfl) (by kernel_rfl) (fun _ _ _ h => h) ⟨Or.inl ⟨by rfl, ?hy13⟩, fun _ => rfl⟩ ?rest13
        case hy13 => (intro w; go_simp; try with_reducible rfl)
        refine wpAnyIn_take (i := 9) (v := ?vv14) rfl rfl (by kernel_rfl) (by kernel_rfl) (by kernel_rfl) (fun _ _ _ h => h) ⟨Or.inl ⟨by rfl, ?hy14⟩, fun _ => rfl⟩ ?rest14
        case hy14 => (intro w; go_simp; try with_reducible rfl)
        refine wpAnyIn_ready (rs := [3, 10]) (by kernel_rfl) (by simp) ?_
        refine AllReadyIn.cons rfl (fun K hK => ?_) ?_
        · go_simp
          refine hK _ _ ?_
          clear hK K
          refine wpAnyIn_ready (rs := [10]) (by kernel_rfl) (by simp) ?_
          refine AllReadyIn.cons rfl (fun K hK => ?_) ?_
          · go_simp
            refine hK _ _ ?_
            clear hK K
            refine wpAnyIn_take (i := 11) (v := ?vv15) rfl rfl (by kernel_rfl) (by kernel_rfl) (by kernel_rfl) (fun _ _ _ h => h) ⟨Or.inl ⟨by rfl, ?hy15⟩, fun _ => rfl⟩ ?rest15
            case hy15 => (intro w; go_simp; try with_reducible rfl)
            refine wpAnyIn_ready (rs := [12]) (by kernel_rfl) (by simp) ?_
            refine AllReadyIn.cons rfl (fun K hK => ?_) ?_
            · go_simp
              gi_wp2_with (gi_at_call 13; refine (callsIn_wide.2 (hA2.vote hok _ _ _)).mono ?_; rintro e w8 ⟨⟨r8, rfl⟩, hA8, hc8, hk8⟩)
              refine wpAnyIn_done (by kernel_rfl) ?_ _
              exact NoPanic.normal (HQ.out _ _ _ _ _ _ _ _ _ _ _ _ _ _ hA8 ((Chg.drew (Chg.refl _ _)).trans hc8) ⟨hk8.size, hk8.same⟩)
            exact AllReadyIn.nil
          exact AllReadyIn.nil
        refine AllReadyIn.cons rfl (fun K hK => ?_) ?_
        · go_simp
          refine hK _ _ ?_
          clear hK K
          refine wpAnyIn_take (i := 11) (v := ?vv16) rfl rfl (by kernel_rfl) (by kernel_rfl) (by kernel_rfl) (fun _ _ _ h => h) ⟨Or.inl ⟨by rfl, ?hy16⟩, fun _ => rfl⟩ ?rest16
          case hy16 => (intro w; go_simp; try with_reducible rfl)
          refine wpAnyIn_ready (rs := [3]) (by kernel_rfl) (by simp) ?_
          refine AllReadyIn.cons rfl (fun K hK => ?_) ?_
          · go_simp
            refine hK _ _ ?_
            clear hK K
            refine wpAnyIn_ready (rs := [12]) (by kernel_rfl) (by simp) ?_
            refine AllReadyIn.cons rfl (fun K hK => ?_) ?_
            · go_simp
              gi_wp2_with (gi_at_call 13; refine (callsIn_wide.2 (hA2.vote hok _ _ _)).mono ?_; rintro e w8 ⟨⟨r8, rfl⟩, hA8, hc8, hk8⟩)
              refine wpAnyIn_done (by kernel_rfl) ?_ _
              exact NoPanic.normal (HQ.out _ _ _ _ _ _ _ _ _ _ _ _ _ _ hA8 ((Chg.drew (Chg.refl _ _)).trans hc8) ⟨hk8.size, hk8.same⟩)
            exact AllReadyIn.nil
          exact AllReadyIn.nil
        exact AllReadyIn.nil
      exact AllReadyIn.nil
    exact AllReadyIn.nil
  refine AllReadyIn.cons rfl (fun K hK => ?_) ?_
  · go_simp
    refine hK _ _ ?_
    clear hK K
    refine wpAnyIn_take (i := 5) (v := ?vv17) rfl rfl (by kernel_rfl) (by kernel_rfl) (by kernel_rfl) (fun _ _ _ h => h) ⟨Or.inl ⟨by rfl, ?hy17⟩, fun _ => rfl⟩ ?rest17
    case hy17 => (intro w; go_simp; try with_reducible rfl)
    refine wpAnyIn_take (i := 6) (v := ?vv18) rfl rfl (by kernel_rfl) (by kernel_rfl) (by kernel_rfl) (fun _ _ _ h => h) ⟨Or.inl ⟨by rfl, ?hy18⟩, fun _ => rfl⟩ ?rest18
    case hy18 => (intro w; go_simp; try with_reducible rfl)
    refine wpAnyIn_ready (rs := [0, 7]) (by kernel_rfl) (by simp) ?_
    refine AllReadyIn.cons rfl (fun K hK => ?_) ?_
    · go_simp
      refine hK _ _ ?_
      clear hK K
      refine wpAnyIn_take (i := 1) (v := ?vv19) rfl rfl (by kernel_rfl) (by kernel_rfl) (by kernel_rfl) (fun _ _ _ h => h) ⟨Or.inl ⟨by rfl, ?hy19⟩, fun _ => rfl⟩ ?rest19
      case hy19 => (intro w; go_simp; try with_reducible rfl)
      refine wpAnyIn_take (i := 2) (v := ?vv20) rfl rfl (by kernel_rfl) (by kernel_rfl) (by kernel_rfl) (fun _ _ _ h => h) ⟨Or.inl ⟨by rfl, ?hy20⟩, fun _ => rfl⟩ ?rest20
      case hy20 => (intro w; go_simp; try with_reducible rfl)
      refine wpAnyIn_ready (rs := [3, 7]) (by kernel_rfl) (by simp) ?_
      refine AllReadyIn.cons rfl (fun K hK => ?_) ?_
      · go_simp
        refine hK _ _ ?_
        clear hK K
        refine wpAnyIn_ready (rs := [7]) (by kernel_rfl) (by simp) ?_
        refine AllReadyIn.cons rfl (fun K hK => ?_) ?_
        · go_simp
          refine hK _ _ ?_
          clear hK K
          refine wpAnyIn_take (i := 8) (v := ?vv21) rfl rfl (by kernel_rfl) (by kernel_rfl) (by kernel_rfl) (fun _ _ _ h => h) ⟨Or.inl ⟨by rfl, ?hy21⟩, fun _ => rfl⟩ ?rest21
          case hy21 => (intro w; go_simp; try with_reducible rfl)
          refine wpAnyIn_take (i := 9) (v := ?vv22) rfl rfl (by kernel_rfl) (by kernel_rfl) (by kernel_rfl) (fun _ _ _ h => h) ⟨Or.inl ⟨by rfl, ?hy22⟩, fun _ => rfl⟩ ?rest22
          case hy22 => (intro w; go_simp; try with_reducible rfl)
          refine wpAnyIn_ready (rs := [10]) (by kernel_rfl) (by simp) ?_
          refine AllReadyIn.cons rfl (fun K hK => ?_) ?_
          · go_simp
            refine hK _ _ ?_
            clear hK K
            refine wpAnyIn_take (i := 11) (v := ?vv23) rfl rfl (by kernel_rfl) (by kernel_rfl) (by kernel_rfl) (fun _ _ _ h => h) ⟨Or.inl ⟨by rfl, ?hy23⟩, fun _ => rfl⟩ ?rest23
            case hy23 => (intro w; go_simp; try with_reducible rfl)
            refine wpAnyIn_ready (rs := [12]) (by kernel_rfl) (by simp) ?_
            refine AllReadyIn.cons rfl (fun K hK => ?_) ?_
            · go_simp
              gi_wp2_with (gi_at_call 13; refine (callsIn_wide.2 (hA2.vote hok _ _ _)).mono ?_; rintro e w8 ⟨⟨r8, rfl⟩, hA8, hc8, hk8⟩)
              refine wpAnyIn_done (by kernel_rfl) ?_ _
              exact NoPanic.normal (HQ.out _ _ _ _ _ _ _ _ _ _ _ _ _ _ hA8 ((Chg.drew (Chg.refl _ _)).trans hc8) ⟨hk8.size, hk8.same⟩)
            exact AllReadyIn.nil
          exact AllReadyIn.nil
        exact AllReadyIn.nil
      refine AllReadyIn.cons rfl (fun K hK => ?_) ?_
      · go_simp
        refine hK _ _ ?_
        clear hK K
        refine wpAnyIn_take (i := 8) (v := ?vv24) rfl rfl (by kernel_rfl) (by kernel_rfl) (by kernel_rfl) (fun _ _ _ h => h) ⟨Or.inl ⟨by rfl, ?hy24⟩, fun _ => rfl⟩ ?rest24
        case hy24 => (intro w; go_simp; try with_reducible rfl)
        refine wpAnyIn_take (i := 9) (v := ?vv25) rfl rfl (by kernel_rfl) (by kernel_rfl) (by kernel_rfl) (fun _ _ _ h => h) ⟨Or.inl ⟨by rfl, ?hy25⟩, fun _ => rfl⟩ ?rest25
        case hy25 => (intro w; go_simp; try with_reducible rfl)
        refine wpAnyIn_ready (rs := [3, 10]) (by kernel_rfl) (by simp) ?_
        refine AllReadyIn.cons rfl (fun K hK => ?_) ?_
        · go_simp
          refine hK _ _ ?_
          clear hK K
          refine wpAnyIn_ready (rs := [10]) (by kernel_rfl) (by simp) ?_
          refine AllReadyIn.cons rfl (fun K hK => ?_) ?_
          · go_simp
            refine hK _ _ ?_
            clear hK K
            refine wpAnyIn_take (i := 11) (v := ?vv26) rfl rfl (by kernel_rfl) (by kernel_rfl) (by kernel_rfl) (fun _ _ _ h => h) ⟨Or.inl ⟨by rfl, ?hy26⟩, fun _ => rfl⟩ ?rest26
            case hy26 => (intro w; go_simp; try with_reducible rfl)
            refine wpAnyIn_ready (rs := [12]) (by kernel_rfl) (by simp) ?_
            refine AllReadyIn.cons rfl (fun K hK => ?_) ?_
            · go_simp
              gi_wp2_with (gi_at_call 13; refine (callsIn_wide.2 (hA2.vote hok _ _ _)).mono ?_; rintro e w8 ⟨⟨r8, rfl⟩, hA8, hc8, hk8⟩)
              refine wpAnyIn_done (by kernel_rfl) ?_ _
              exact NoPanic.normal (HQ.out _ _ _ _ _ _ _ _ _ _ _ _ _ _ hA8 ((Chg.drew (Chg.refl _ _)).trans hc8) ⟨hk8.size, hk8.same⟩)
            exact AllReadyIn.nil
          exact AllReadyIn.nil
        refine AllReadyIn.cons rfl (fun K hK => ?_) ?_
        · go_simp
          refine hK _ _ ?_
          clear hK K
          refine wpAnyIn_take (i := 11) (v := ?vv27) rfl rfl (by kernel_rfl) (by kernel_rfl) (by kernel_rfl) (fun _ _ _ h => h) ⟨Or.inl ⟨by rfl, ?hy27⟩, fun _ => rfl⟩ ?rest27
          case hy27 => (intro w; go_simp; try with_reducible rfl)
          refine wpAnyIn_ready (rs := [3]) (by kernel_rfl) (by simp) ?_
          refine AllReadyIn.cons rfl (fun K hK => ?_) ?_
          · go_simp
            refine hK _ _ ?_
            clear hK K
            refine wpAnyIn_ready (rs := [12]) (by kernel_rfl) (by simp) ?_
            refine AllReadyIn.cons rfl (fun K hK => ?_) ?_
            · go_simp
              gi_wp2_with (gi_at_call 13; refine (callsIn_wide.2 (hA2.vote hok _ _ _)).mono ?_; rintro e w8 ⟨⟨r8, rfl⟩, hA8, hc8, hk8⟩)
              refine wpAnyIn_done (by kernel_rfl) ?_ _
              exact NoPanic.normal (HQ.out _ _ _ _ _ _ _ _ _ _ _ _ _ _ hA8 ((Chg.drew (Chg.refl _ _)).trans hc8) ⟨hk8.size, hk8.same⟩)
            exact AllReadyIn.nil
          exact AllReadyIn.nil
        exact AllReadyIn.nil
      exact AllReadyIn.nil
    refine AllReadyIn.cons rfl (fun K hK => ?_) ?_
    · go_simp
      refine hK _ _ ?_
      clear hK K
      refine wpAnyIn_take (i := 8) (v := ?vv28) rfl rfl (by kernel_rfl) (by kernel_rfl) (by kernel_rfl) (fun _ _ _ h => h) ⟨Or.inl ⟨by rfl, ?hy28⟩, fun _ => rfl⟩ ?rest28
      case hy28 => (intro w; go_simp; try with_reducible rfl)
      refine wpAnyIn_take (i := 9) (v := ?vv29) rfl rfl (by kernel_rfl) (by kernel_rfl) (by kernel_rfl) (fun _ _ _ h => h) ⟨Or.inl ⟨by rfl, ?hy29⟩, fun _ => rfl⟩ ?rest29
      case hy29 => (intro w; go_simp; try with_reducible rfl)
      refine wpAnyIn_ready (rs := [0, 10]) (by kernel_rfl) (by simp) ?_
      refine AllReadyIn.cons rfl (fun K hK => ?_) ?_
      · go_simp
        refine hK _ _ ?_
        clear hK K
        refine wpAnyIn_take (i := 1) (v := ?vv30) rfl rfl (by kernel_rfl) (by kernel_rfl) (by kernel_rfl) (fun _ _ _ h => h) ⟨Or.inl ⟨by rfl, ?hy30⟩, fun _ => rfl⟩ ?rest30
        case hy30 => (intro w; go_simp; try with_reducible rfl)
        refine wpAnyIn_take (i := 2) (v := ?vv31) rfl rfl (by kernel_rfl) (by kernel_rfl) (by kernel_rfl) (fun _ _ _ h => h) ⟨Or.inl ⟨by rfl, ?hy31⟩, fun _ => rfl⟩ ?rest31
        case hy31 => (intro w; go_simp; try with_reducible rfl)
        refine wpAnyIn_ready (rs := [3, 10]) (by kernel_rfl) (by simp) ?_
        refine AllReadyIn.cons rfl (fun K hK => ?_) ?_
        · go_simp
          refine hK _ _ ?_
          clear hK K
          refine wpAnyIn_ready (rs := [10]) (by kernel_rfl) (by simp) ?_
          refine AllReadyIn.cons rfl (fun K hK => ?_) ?_
          · go_simp
            refine hK _ _ ?_
            clear hK K
            refine wpAnyIn_take (i := 11) (v := ?vv32) rfl rfl (by kernel_rfl) (by kernel_rfl) (by kernel_rfl) (fun _ _ _ h => h) ⟨Or.inl ⟨by rfl, ?hy32⟩, fun _ => rfl⟩ ?rest32
            case hy32 => (intro w; go_simp; try with_reducible rfl)
            refine wpAnyIn_ready (rs := [12]) (by kernel_rfl) (by simp) ?_
            refine AllReadyIn.cons rfl (fun K hK => ?_) ?_
            · go_simp
              gi_wp2_with (gi_at_call 13; refine (callsIn_wide.2 (hA2.vote hok _ _ _)).mono ?_; rintro e w8 ⟨⟨r8, rfl⟩, hA8, hc8, hk8⟩)
              refine wpAnyIn_done (by kernel_rfl) ?_ _
              exact NoPanic.normal (HQ.out _ _ _ _ _ _ _ _ _ _ _ _ _ _ hA8 ((Chg.drew (Chg.refl _ _)).trans hc8) ⟨hk8.size, hk8.same⟩)
            exact AllReadyIn.nil
          exact AllReadyIn.nil
        refine AllReadyIn.cons rfl (fun K hK => ?_) ?_
        · go_simp
          refine hK _ _ ?_
          clear hK K
          refine wpAnyIn_take (i := 11) (v := ?vv33) rfl rfl (by kernel_rfl) (by kernel_rfl) (by kernel_rfl) (fun _ _ _ h => h) ⟨Or.inl ⟨by rfl, ?hy33⟩, fun _ => rfl⟩ ?rest33
          case hy33 => (intro w; go_simp; try with_reducible rfl)
          refine wpAnyIn_ready (rs := [3]) (by kernel_rfl) (by simp) ?_
          refine AllReadyIn.cons rfl (fun K hK => ?_) ?_
          · go_simp
            refine hK _ _ ?_
            clear hK K
            refine wpAnyIn_ready (rs := [12]) (by kernel_rfl) (by simp) ?_
            refine AllReadyIn.cons rfl (fun K hK => ?_) ?_
            · go_simp
              gi_wp2_with (gi_at_call 13; refine (callsIn_wide.2 (hA2.vote hok _ _ _)).mono ?_; rintro e w8 ⟨⟨r8, rfl⟩, hA8, hc8, hk8⟩)
              refine wpAnyIn_done (by kernel_rfl) ?_ _
              exact NoPanic.normal (HQ.out _ _ _ _ _ _ _ _ _ _ _ _ _ _ hA8 ((Chg.drew (Chg.refl _ _)).trans hc8) ⟨hk8.size, hk8.same⟩)
            exact AllReadyIn.nil
          exact AllReadyIn.nil
        exact AllReadyIn.nil
      refine AllReadyIn.cons rfl (fun K hK => ?_) ?_
      · go_simp
        refine hK _ _ ?_
        clear hK K
        refine wpAnyIn_take (i := 11) (v := ?vv34) rfl rfl (by kernel_rfl) (by kernel_rfl) (by kernel_rfl) (fun _ _ _ h => h) ⟨Or.inl ⟨by rfl, ?hy34⟩, fun _ => rfl⟩ ?rest34
        case hy34 => (intro w; go_simp; try with_reducible rfl)
        refine wpAnyIn_ready (rs := [0]) (by kernel_rfl) (by simp) ?_
        refine AllReadyIn.cons rfl (fun K hK => ?_) ?_
        · go_simp
          refine hK _ _ ?_
          clear hK K
          refine wpAnyIn_take (i := 1) (v := ?vv35) rfl rfl (by kernel_rfl) (by kernel_rfl) (by kernel_rfl) (fun _ _ _ h => h) ⟨Or.inl ⟨by rfl, ?hy35⟩, fun _ => rfl⟩ ?rest35
          case hy35 => (intro w; go_simp; try with_reducible rfl)
          refine wpAnyIn_take (i := 2) (v := ?vv36) rfl rfl (by kernel_rfl) (by kernel_rfl) (by kernel_rfl) (fun _ _ _ h => h) ⟨Or.inl ⟨by rfl, ?hy36⟩, fun _ => rfl⟩ ?rest36
          case hy36 => (intro w; go_simp; try with_reducible rfl)
          refine wpAnyIn_ready (rs := [3]) (by kernel_rfl) (by simp) ?_
          refine AllReadyIn.cons rfl (fun K hK => ?_) ?_
          · go_simp
            refine hK _ _ ?_
            clear hK K
            refine wpAnyIn_ready (rs := [12]) (by kernel_rfl) (by simp) ?_
            refine AllReadyIn.cons rfl (fun K hK => ?_) ?_
            · go_simp
              gi_wp2_with (gi_at_call 13; refine (callsIn_wide.2 (hA2.vote hok _ _ _)).mono ?_; rintro e w8 ⟨⟨r8, rfl⟩, hA8, hc8, hk8⟩)
              refine wpAnyIn_done (by kernel_rfl) ?_ _
              exact NoPanic.normal (HQ.out _ _ _ _ _ _ _ _ _ _ _ _ _ _ hA8 ((Chg.drew (Chg.refl _ _)).trans hc8) ⟨hk8.size, hk8.same⟩)
            exact AllReadyIn.nil
          exact AllReadyIn.nil
        exact AllReadyIn.nil
      exact AllReadyIn.nil
    exact AllReadyIn.nil
  exact AllReadyIn.nil
end Go.Proofs.YtgebcnnenhgkcaaGreat
