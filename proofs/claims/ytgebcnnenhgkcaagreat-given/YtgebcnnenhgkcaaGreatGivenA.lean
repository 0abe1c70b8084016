/- Given: All gives the votes that were given when it was asked. -/
import Derived.Test.YtgebcnnenhgkcaaGreatGivenT
import Derived.Test.YtgebcnnenhgkcaaGreatOpsA
namespace Go.Proofs.YtgebcnnenhgkcaaGreat
open Go.RowKit Go.Shelf
attribute [local go_sem] Oper.semAt_some

theorem func_nil_in (w : World) (d : Nat) (f : Fn) (a b : Array Value) : (Op.equalIn (d + 1) 28 (.func f a b) .nilFunc).run Tryz.prog w = .ok false w := by
  simp [Op.equalIn, run_underlying Tryz.underlying28]
theorem func_nil (w : World) (f : Fn) (a b : Array Value) : (binOp .eql 28 (.func f a b) .nilFunc).run Tryz.prog w = .ok (.bool false) w := by
  simp only [binOp]
  simp [Op.equal, Op.maxDepth, func_nil_in w 9999 f a b]

set_option maxRecDepth 100000 in
set_option maxHeartbeats 8000000 in
theorem given_at (p sp : Option Addr) (c sc : Nat) (ws : List Int) (ops : List OpD) (lv : Int) (w : World) (hx : IntsAt w p ws) (hp : p = none ∨ ∃ g o, p = some ⟨g, o, none⟩) (hn : p = none → c = 0 ∧ ws = []) (hb : (ws.length + 3) * 8 ≤ 140737488355328) (hops : OpsAt w sp ops) (hol : ops.length ≤ maxLen) :
    Calls Tryz.prog 4 #[.slice p ws.length c, .slice sp ops.length sc, .int .i64 lv] w fun e w' => e = .returned (.bool true) ∧ Below w.heap.size w w' := by
  have hfn : Fence.wide.fn 9 := trivial
  have hfn2 : Fence.wide.fn 10 := trivial
  have hnil := func_nil
  refine (callsIn_wide (n := 9)).1 ?_
  refine callsIn_of_wp_marks Tryz.func4 rfl trivial ?_ rfl
  simp only [Tryz.ntmps4, List.size_toArray, List.length_cons, List.length_nil, Nat.reduceAdd, Nat.reduceSub, Array.replicate_succ, Array.replicate_zero, List.push_toArray, List.append_toArray, List.nil_append, List.cons_append]
  gi_wp2_with (gi_at_call 9; refine (callsIn_wide.2 (all_nil _)).mono ?_; rintro e w' ⟨rfl, rfl⟩)
  obtain ⟨W0, hW0⟩ : ∃ W0, ((w.alloc (.cells #[.int .i64 lv] 3)).alloc (.cells #[.bool false] 4)).alloc (.cells #[.slice none 0 0] 39) = W0 := ⟨_, rfl⟩
  have hs0 : W0.heap.size = w.heap.size + 1 + 1 + 1 := by rw [← hW0]; simp
  have c0 : W0.cell? ⟨w.heap.size, 0, none⟩ = some (.int .i64 lv) := by rw [← hW0]; simp [go_sem]
  have c1 : W0.cell? ⟨w.heap.size + 1, 0, none⟩ = some (.bool false) := by rw [← hW0]; simp [go_sem]
  have f1 : W0.frozen? ⟨w.heap.size + 1, 0, none⟩ = false := by rw [← hW0]; simp [go_sem]
  have hbx : W0.heap[w.heap.size + 1 + 1]? = some (.cells #[.slice none 0 0] 39 (0, 0)) := by
    rw [← hW0]; have := heap_alloc_new ((w.alloc (.cells #[.int .i64 lv] 3)).alloc (.cells #[.bool false] 4)) (.cells #[.slice none 0 0] 39); simpa using this
  have hB0 : Below w.heap.size w W0 := by rw [← hW0]; exact (((Below.refl _ w).alloc (Nat.le_refl _) _).alloc (by simp) _).alloc (by simp; omega) _
  rw [hW0]
  clear hW0
  have hsn : Snap W0 (w.heap.size + 1 + 1) (.slice none 0 0) [] := ⟨hbx, World.ownsRow_nil _ _ _ _, by simp⟩
  refine wpIn_rangeFunc_ownH rfl (by omega) (gf := 68) (lb := #[.pointer (some ⟨w.heap.size + 1 + 1, 0, none⟩)]) rfl trivial (enters_of Tryz.func68 (by kernel_rfl) rfl)
    (each_stops 8 (w.heap.size + 1 + 1) (.slice none 0 0) [] W0 hsn) (fun h1 h2 k hk => (h2 k hk).trans (h1 k hk)) (fun W l o o' hl _ _ _ k hk => World.putObj_heap_other (by
      rcases hk with rfl | hk
      · omega
      · simp [Value.ownBlock] at hk)) (Below.refl _ _) (fun _ => rfl)
    (fun _ W => Below W0.heap.size W0 W) (fun _ _ _ => False) (ownFrom_below (Nat.le_refl _) (Nat.le_refl _)) (fun _ _ _ _ _ hs _ _ => hs) (Below.refl _ _)
    (fun _ _ _ => True) (fun _ _ _ _ _ _ _ _ _ => trivial) ?assign ?body ?done ?stop
  case assign =>
    intro l pre x W K hI hK
    gi_wp2
    exact hK _ _ (KeepsFrom.refl _ _) (fun _ _ => rfl) hI trivial
  case body =>
    intro l pre x a' W _ _ _ _ hlt
    simp at hlt
  case stop =>
    intro D c pre W _ _ hf _
    exact hf.elim
  case done =>
    intro D xs W hD _ hB hK
    have hzW : W0.heap.size ≤ W.heap.size := hB.size
    have hDl : D < W.heap.size := (Array.getElem?_eq_some_iff.1 hK).1
    have hBw : Below w.heap.size w W := hB0.trans (hB.mono (by omega))
    have d0 : W.cell? ⟨w.heap.size, 0, none⟩ = some (.int .i64 lv) := (hB.cell (p := ⟨w.heap.size, 0, none⟩) (by dsimp only; omega)).trans c0
    have d1 : W.cell? ⟨w.heap.size + 1, 0, none⟩ = some (.bool false) := (hB.cell (p := ⟨w.heap.size + 1, 0, none⟩) (by dsimp only; omega)).trans c1
    have df1 : W.frozen? ⟨w.heap.size + 1, 0, none⟩ = false := (hB.frozen (p := ⟨w.heap.size + 1, 0, none⟩) (by dsimp only; omega)).trans f1
    have hxW : IntsAt W p ws := hx.below hBw
    have HK : Hid (W.heap[D]? = some (.deferred (some []))) := hK
    clear hK hx c0 c1 f1 hbx hsn
    gi_wp2_with fail
    cases hok : okW ws
    · refine (callsIn_wide.2 (begun_no p c ws W hxW hp hn hb hok)).mono ?_
      rintro e w1 ⟨rfl, hB1⟩
      have hz1 := hB1.size
      have e1 : w1.cell? ⟨w.heap.size + 1, 0, none⟩ = some (.bool false) := (hB1.cell (p := ⟨w.heap.size + 1, 0, none⟩) (by dsimp only; omega)).trans d1
      have ef1 : w1.frozen? ⟨w.heap.size + 1, 0, none⟩ = false := (hB1.frozen (p := ⟨w.heap.size + 1, 0, none⟩) (by dsimp only; omega)).trans df1
      have hlt1 : w.heap.size + 1 < w1.heap.size := by omega
      have HK1 : Hid (w1.heap[D]? = some (.deferred (some []))) := (hB1.block D hDl).trans HK.out
      gi_wp2_with fail
      obtain ⟨W2, hW2⟩ : ∃ W2, (w1.setCell ⟨w.heap.size + 1, 0, none⟩ (.bool true)).alloc (.cells #[.pointer none] 30) = W2 := ⟨_, rfl⟩
      have hK2 : W2.heap[D]? = some (.deferred (some [])) := by
        rw [← hW2, Below.heap_alloc _ _ _ (by simp [World.setCell]; omega), Below.heap_setCell _ _ _ _ (by dsimp only; omega)]; exact HK1.out
      have hr2 : W2.cell? ⟨w.heap.size + 1, 0, none⟩ = some (.bool true) := by rw [← hW2]; exact cell_alloc _ (World.cell?_setCell_same _ _ _ e1)
      have hB2 : Below w.heap.size w W2 := by rw [← hW2]; exact ((hBw.trans (hB1.mono hBw.size)).setCell (p := ⟨w.heap.size + 1, 0, none⟩) (by dsimp only; omega) _).alloc (by simp [World.setCell]; omega) _
      rw [hW2]
      clear hW2
      refine ⟨by simp, .inl ⟨_, _, rfl, run_takeDeferred hK2, ?_⟩⟩
      have hc5 := cell_kept hr2 (grownBy_putObj' _ D (.deferred none)) (fun r e => by cases e; exact ⟨_, hK2, rfl⟩)
      refine ⟨.bool true, ?_, rfl, hB2.trans (belowK_b (w := w) (Nat.le_refl _) W2 D _ _ (by omega) hK2 rfl rfl)⟩
      simp [results, Tryz.f4, go_sem, hc5]
    · refine (callsIn_wide.2 (begun_ok p c ws W hxW hp hn hb hok)).mono ?_
      rintro e w1 ⟨x, rfl, hBo, hB1⟩
      have hz1 := hB1.size
      have hBo3 := hBo.guard (.cells #[.pointer (some ⟨x, 0, none⟩)] 30)
      have hc3 : Chg (fun k => ¬ (k < W.heap.size)) W (w1.alloc (.cells #[.pointer (some ⟨x, 0, none⟩)] 30)) := (Chg.mono (Chg.of_below (fun _ => False) hB1) (fun _ _ hf => hf.elim)).alloc _
      have hbx3 : (w1.alloc (.cells #[.pointer (some ⟨x, 0, none⟩)] 30)).heap[w1.heap.size]? = some (.cells #[.pointer (some ⟨x, 0, none⟩)] 30 (0, 0)) := heap_alloc_new w1 _
      gi_wp2_with fail
      obtain ⟨W3, hW3⟩ : ∃ W3, w1.alloc (.cells #[.pointer (some ⟨x, 0, none⟩)] 30) = W3 := ⟨_, rfl⟩
      have hs3 : W3.heap.size = w1.heap.size + 1 := by rw [← hW3]; simp
      rw [hW3] at hBo3 hc3 hbx3 ⊢
      clear hW3 hBo
      have HBX : Hid (W3.heap[w1.heap.size]? = some (.cells #[.pointer (some ⟨x, 0, none⟩)] 30 (0, 0))) := hbx3
      clear hbx3
      obtain ⟨Pr, hPr⟩ : ∃ Pr : Nat → Prop, Pr = fun k => k < W.heap.size ∨ k = w1.heap.size := ⟨_, rfl⟩
      have hPr1 : ∀ k, k < W.heap.size → Pr k := fun k hk => by rw [hPr]; exact .inl hk
      have hPr2 : Pr w1.heap.size := by rw [hPr]; exact .inr rfl
      have hPr3 : ∀ k, Pr k → k < W3.heap.size := fun k hk => by rw [hPr] at hk; omega
      rw [← hPr] at hBo3
      clear hPr
      have hol' : Hid (ops.length ≤ maxLen) := hol
      unfold maxLen at hol
      have holI : (ops.length : Int) ≤ 9223372036854775807 := by omega
      have hopsW : Hid (OpsAt W sp ops) := hops.chg (Chg.of_below (fun _ => False) hBw) (fun _ _ hf => hf)
      clear hops
      gi_loopw [10, 11] (fun o i wr => ∃ k : Nat, k ≤ ops.length ∧ o = .bool true ∧ i = .int .i64 k ∧ Alike2 wr Pr x ws ∧ Chg (fun k => ¬ Pr k) W3 wr)
        (fun _ i _ => ops.length - (intOf i).toNat)
      case atStart => exact ⟨0, by omega, rfl, rfl, ⟨_, _, hBo3⟩, Chg.refl _ _⟩
      case round =>
        obtain ⟨k, hk, rfl, rfl, hA, hcr⟩ := hrel
        by_cases hlt : k < ops.length
        · have hlt' : (k : Int) < (ops.length : Int) := by omega
          have hk1 : (k : Int) + 1 ≤ 9223372036854775807 := by omega
          obtain ⟨op, hop⟩ : ∃ op, ops[k]? = some op := ⟨_, List.getElem?_eq_getElem hlt⟩
          rcases hopsW.out with h' | ⟨g, o, rfl, hcells⟩
          · subst h'; simp at hlt
          obtain ⟨z0, z1, z2, z3, z4, z5⟩ := hcells k op hop
          have hgl : g < W.heap.size := World.block_lt_of_cell? W _ z0
          have hgo : ∀ (i : Nat) (v : Value), W.cell? ⟨g, i, none⟩ = some v → wr.cell? ⟨g, i, none⟩ = some v := fun i v hv => hcr.cell (hc3.cell hv (by dsimp only; omega)) (fun hn => hn (hPr1 g hgl))
          replace z0 := hgo _ _ z0
          replace z1 := hgo _ _ z1
          replace z2 := hgo _ _ z2
          replace z3 := hgo _ _ z3
          replace z4 := hgo _ _ z4
          replace z5 := hgo _ _ z5
          have zb : wr.cell? ⟨w1.heap.size, 0, none⟩ = some (.pointer (some ⟨x, 0, none⟩)) := hcr.cell (by rw [cell_of_heap HBX.out]; rfl) (fun hn => hn hPr2)
          clear hcells hgo hop
          by_cases hkd : 2 < op.kd
          · gi_wp2
            go_roundw
            case rel => exact ⟨k + 1, by omega, rfl, by go_num, hA, hcr⟩
            case measure => simp [intOf]; omega
          · have hkd' : op.kd ≤ 2 := by omega
            obtain ⟨ps, vs, hBoth⟩ := hA
            have hfn3 : Fence.wide.fn 11 := trivial
            have hmix : Tryz.prog.follows .mixedOrders = true := by kernel_rfl
            have hBd : Both wr.drew Pr x ws ps vs := hBoth.kept (Below.drew (Below.refl _ _))
            gi_wp2_with fail
            refine wpIn_mono ?_ NoPanic.imp
            gi_region_with_o ((gi_at_call 11; refine (callsIn_wide.2 (step_at Pr x ws ps vs op.kd op.k op.a op.b op.c op.wv _ hBd hkd')).mono ?_; rintro e w5 ⟨rfl, hA5, hc5⟩))
            all_goals refine NoPanic.normal ?_
            all_goals gi_wp2_with fail
            all_goals exact ⟨⟨k + 1, by omega, rfl, by go_num, hA5, hcr.trans ((Chg.drew (Chg.refl _ _)).trans hc5)⟩, by simp [intOf]; omega⟩
        · obtain ⟨ps, vs, b, rb, S, R, hb⟩ := hA
          have zb : wr.cell? ⟨w1.heap.size, 0, none⟩ = some (.pointer (some ⟨x, 0, none⟩)) := hcr.cell (by rw [cell_of_heap HBX.out]; rfl) (fun hn => hn hPr2)
          have zx0 := hb.x0
          obtain ⟨rwv, rpv, rvv, hR⟩ := hb.doc
          obtain ⟨rvp, rvc, hrv⟩ : ∃ rvp rvc, rvv = .slice rvp vs.length rvc := by
            rcases hR.vrow.2 with ⟨h', h''⟩ | ⟨g, cap, cur, h', _⟩
            · exact ⟨none, 0, by rw [h', h'']⟩
            · exact ⟨_, _, h'⟩
          obtain ⟨rpg, rpc, hrp, _, _, _, _⟩ := row_open hR.prow hb.T.1
          subst hrv hrp
          have hfn4 : Fence.wide.fn 12 := trivial
          have hfn5 : Fence.wide.fn 13 := trivial
          have hmix : Tryz.prog.follows .mixedOrders = true := by kernel_rfl
          gi_wp2_with fail
          refine (callsIn_wide.2 hb.all).mono ?_
          rintro e w5 ⟨Bx, v', rfl, hsn, hAl, hcS⟩
          have yb : w5.cell? ⟨w1.heap.size, 0, none⟩ = some (.pointer (some ⟨x, 0, none⟩)) := hcS.cell zb (fun hS => hb.lowS _ hS hPr2)
          have yx0 : w5.cell? ⟨x, 0, none⟩ = some (.pointer (some ⟨b, 0, none⟩)) := hcS.cell hb.x0 hb.xS
          have yx1 : w5.cell? ⟨x, 1, none⟩ = some (.pointer (some ⟨rb, 0, none⟩)) := hcS.cell hb.x1 hb.xS
          have hR5 := hR.kept hcS (fun k hk hk' => hb.dis k hk' hk)
          have yr1 := hR5.c1
          have yr2 := hR5.c2
          have l1 : w1.heap.size < w5.heap.size := World.block_lt_of_cell? w5 _ yb
          have l2 : x < w5.heap.size := World.block_lt_of_cell? w5 _ yx0
          have l3 : rb < w5.heap.size := World.block_lt_of_cell? w5 _ yr1
          clear zb zx0
          obtain ⟨Pr6, hPr6⟩ : ∃ Pr6 : Nat → Prop, Pr6 = fun k => (Pr k ∨ k = x ∨ R k ∨ k = Bx ∨ v'.ownBlock = some k) ∨ k = w5.heap.size := ⟨_, rfl⟩
          have p1 : ∀ k, Pr k → Pr6 k := fun k hk => by rw [hPr6]; exact .inl (.inl hk)
          have p2 : Pr6 x := by rw [hPr6]; exact .inl (.inr (.inl rfl))
          have p3 : ∀ k, R k → Pr6 k := fun k hk => by rw [hPr6]; exact .inl (.inr (.inr (.inl hk)))
          have p4 : ∀ k, k = Bx ∨ v'.ownBlock = some k → Pr6 k := fun k hk => by rw [hPr6]; exact .inl (.inr (.inr (.inr hk)))
          have p5 : Pr6 w5.heap.size := by rw [hPr6]; exact .inr rfl
          have hAl6 : Alone (w5.alloc (.cells #[.slice rvp vs.length rvc] 39)) Pr6 b ws := by rw [hPr6]; exact hAl.guard _
          clear hPr6
          gi_wp2_with fail
          refine (callsIn_wide.2 (hAl6.block hok 0)).mono ?_
          rintro e w7 ⟨⟨r7, q7, rfl⟩, hAl7, hc7⟩
          obtain ⟨W6, hW6⟩ : ∃ W6, w5.alloc (.cells #[.slice rvp vs.length rvc] 39) = W6 := ⟨_, rfl⟩
          have hbw6 : Hid (W6.heap[w5.heap.size]? = some (.cells #[.slice rvp vs.length rvc] 39 (0, 0))) := by rw [← hW6]; exact heap_alloc_new w5 _
          have hB6 : Below w5.heap.size w5 W6 := by rw [← hW6]; exact (Below.refl _ _).alloc (Nat.le_refl _) _
          rw [hW6] at hc7
          clear hW6
          have n6 : ∀ {a : Addr} {v : Value}, w5.cell? a = some v → Pr6 a.block → w7.cell? a = some v := fun {a v} hv hp => hc7.cell ((hB6.cell (World.block_lt_of_cell? w5 _ hv)).trans hv) (fun hn => hn hp)
          have xb : w7.cell? ⟨w1.heap.size, 0, none⟩ = some (.pointer (some ⟨x, 0, none⟩)) := n6 yb (p1 _ hPr2)
          have xx0 : w7.cell? ⟨x, 0, none⟩ = some (.pointer (some ⟨b, 0, none⟩)) := n6 yx0 p2
          have xx1 : w7.cell? ⟨x, 1, none⟩ = some (.pointer (some ⟨rb, 0, none⟩)) := n6 yx1 p2
          have xr1 : w7.cell? ⟨rb, 1, none⟩ = some (.slice (some ⟨rpg, 0, none⟩) ps.length rpc) := n6 yr1 (p3 _ hR.inb)
          have hAl7d : Alone w7.drew Pr6 b ws := hAl7.below (Below.drew (Below.refl _ _))
          clear yr1 yr2 yb yx0 yx1 n6
          gi_wp2_with fail
          refine wpIn_mono (Q := NoPanic (fun e a' w' => e = .normal ∧ (∃ r8 : Int, a' = { tmps := #[Value.slice p ws.length c, Value.slice sp ops.length sc, Value.int IntKind.i64 lv, undef, undef, Value.pointer (some { block := w.heap.size, off := 0 }), Value.pointer (some { block := w.heap.size + 1, off := 0 }), Value.pointer none, Value.func (Fn.func 68) #[] #[Value.pointer (some { block := w.heap.size + 1 + 1, off := 0 })], Value.pointer (some { block := w1.heap.size, off := 0 }), Value.bool true, Value.int IntKind.i64 ↑k, Value.func (Fn.func 68) #[] #[Value.pointer (some { block := Bx, off := 0 })], Value.pointer (some { block := w5.heap.size, off := 0 }), undef, undef, undef, undef, Value.pointer none, Value.func (Fn.func 68) #[] #[Value.pointer (some { block := w.heap.size + 1 + 1, off := 0 })], Value.func (Fn.func 68) #[] #[Value.pointer (some { block := w.heap.size + 1 + 1, off := 0 })], Value.bool false, Value.func (Fn.func 68) #[] #[Value.pointer (some { block := w.heap.size + 1 + 1, off := 0 })], undef, Value.tuple #[Value.pointer (some { block := x, off := 0 }), Value.bool true], Value.slice p ws.length c, Value.tuple #[Value.pointer (some { block := x, off := 0 }), Value.bool true], Value.pointer (some { block := x, off := 0 }), Value.bool true, Value.pointer (some { block := x, off := 0 }), Value.bool false, Value.bool false, Value.bool true, Value.bool false, Value.bool false, undef, Value.int IntKind.i64 ↑k, Value.slice sp ops.length sc, Value.int IntKind.i64 ↑ops.length, Value.bool false, u40, u41, u42, u43, u44, u45, u46, u47, u48, u49, u50, u51, u52, u53, u54, u55, Value.pointer (some { block := x, off := 0 }), Value.pointer (some { block := x, off := 0 }), Value.pointer (some { block := x, off := 0 }), Value.pointer (some { block := b, off := 0 }), Value.func (Fn.func 68) #[] #[Value.pointer (some { block := Bx, off := 0 })], Value.func (Fn.func 68) #[] #[Value.pointer (some { block := Bx, off := 0 })], Value.bool false, Value.pointer (some { block := x, off := 0 }), Value.pointer (some { block := x, off := 0 }), Value.pointer (some { block := x, off := 1 }), Value.pointer (some { block := rb, off := 0 }), Value.pointer (some { block := rb, off := 0 }), Value.pointer (some { block := rb, off := 2 }), Value.slice rvp vs.length rvc, Value.pointer (some { block := x, off := 0 }), Value.pointer (some { block := x, off := 0 }), Value.pointer (some { block := x, off := 0 }), Value.pointer (some { block := b, off := 0 }), Value.tuple #[Value.int IntKind.i64 r7, Value.int IntKind.i64 q7], Value.pointer (some { block := x, off := 0 }), Value.pointer (some { block := x, off := 0 }), Value.pointer (some { block := x, off := 0 }), Value.pointer (some { block := b, off := 0 }), Value.pointer (some { block := x, off := 0 }), Value.pointer (some { block := x, off := 0 }), Value.pointer (some { block := x, off := 1 }), Value.pointer (some { block := rb, off := 0 }), Value.pointer (some { block := rb, off := 0 }), Value.pointer (some { block := rb, off := 1 }), Value.slice (some { block := rpg, off := 0 }) ps.length rpc, Value.int IntKind.i64 ps.length, Value.int IntKind.i64 r8, undef, undef, undef, undef, undef, undef, undef, undef, undef, undef, undef, undef, undef, undef, undef, undef, undef, undef, undef, undef, undef, undef, undef, undef, undef, undef, undef, undef, undef, undef, undef, undef, undef, undef, undef, undef, undef, undef, undef, undef, undef, undef, undef, undef, undef, undef, undef, undef, undef, undef, undef, undef, undef, undef, undef, undef, undef, undef, undef, undef, undef], defers := [{ target := Target.collected D, args := #[] }] }) ∧ Alone w' Pr6 b ws ∧ Chg (fun k => ¬ Pr6 k) w7 w')) ?_ ?_
          · gi_region_with_o ((gi_at_call 13; refine (callsIn_wide.2 (hAl7d.vote hok _ _ _)).mono ?_; rintro e w8 ⟨⟨r8, rfl⟩, hAl8, hc8, _⟩))
            all_goals (refine NoPanic.normal ?_; exact ⟨rfl, ⟨r8, rfl⟩, hAl8, (Chg.drew (Chg.refl _ _)).trans hc8⟩)
          rintro e a' w8 hq
          obtain ⟨rfl, ⟨r8, rfl⟩, hAl8, hc8⟩ := NoPanic.imp _ _ _ hq
          clear hq hAl7 hAl7d
          gi_wp2_with fail
          have hlt8 : ∀ k, Pr6 k → k < w8.heap.size := fun k hk => by obtain ⟨_, _, _, _, _, _, hh⟩ := hAl8; exact hh.le k hk
          have hcW5 : Chg (fun k => ¬ k < W.heap.size) W w5 := (hc3.trans (hcr.then (T := fun k => ¬ Pr k) (Chg.refl _ _) (fun _ h => .inl h) |>.mono (fun k _ hn hl => hn (hPr1 k hl)))).trans (hcS.mono (fun k _ hS hl => hb.lowS k hS (hPr1 k hl)))
          have hc58 : Chg (fun k => ¬ Pr6 k) w5 w8 := ((Chg.of_below _ hB6).trans hc7).trans hc8
          obtain ⟨W9, hW9⟩ : ∃ W9, w8.alloc (.cells #[.int .i64 0] 3) = W9 := ⟨_, rfl⟩
          have hc59 : Chg (fun k => ¬ Pr6 k) w5 W9 := by rw [← hW9]; exact hc58.alloc _
          have hc79 : Chg (fun k => ¬ Pr6 k) w7 W9 := by rw [← hW9]; exact hc8.alloc _
          have hs9 : W9.heap.size = w8.heap.size + 1 := by rw [← hW9]; simp
          have hzW5 := hcW5.size
          have hz59 := hc59.size
          have m0 : Pr6 w.heap.size := p1 _ (hPr1 _ (by omega))
          have m1 : Pr6 (w.heap.size + 1) := p1 _ (hPr1 _ (by omega))
          have mD : Pr6 D := p1 _ (hPr1 _ hDl)
          have hF9 : Fixed W9 Pr6 w.heap.size (w.heap.size + 1) w1.heap.size x b rb w5.heap.size Bx v' lv vs rvp rvc (some ⟨rpg, 0, none⟩) ps.length rpc :=
            ⟨hc59.cell (hcW5.cell d0 (by dsimp only; omega)) (fun hn => hn m0), hc79.cell xb (fun hn => hn (p1 _ hPr2)), hc79.cell xx0 (fun hn => hn p2), hc79.cell xx1 (fun hn => hn p2), hc79.cell xr1 (fun hn => hn (p3 _ hR.inb)),
              hc79.cell (hc7.cell (by rw [cell_of_heap hbw6.out]; rfl) (fun hn => hn p5)) (fun hn => hn p5), hc59.row hR5.vrow (fun k hk hn => hn (p3 k (hR5.inv k hk))), hsn.kept (fun k hk => hc59.block k (by
                rcases hk with rfl | hk
                · exact (Array.getElem?_eq_some_iff.1 hsn.box).1
                · exact (hsn.row.lt k hk).2) (fun hn => hn (p4 k hk))), m0, p1 _ hPr2, p2, p3 _ hR.inb, p5, fun k hk => p3 k (hR5.inv k hk), p4, fun k hk => by have := hlt8 k hk; omega⟩
          have hT9 : Turn W9 Pr6 b (w.heap.size + 1) w8.heap.size ws 0 :=
            ⟨by rw [← hW9]; simp [go_sem], by rw [← hW9]; simp [go_sem], fun hp => by have := hlt8 _ hp; omega, hc59.cell (hcW5.cell d1 (by dsimp only; omega)) (fun hn => hn m1),
              (hc59.frozen (p := ⟨w.heap.size + 1, 0, none⟩) (by dsimp only; omega) (fun hn => hn m1)).trans ((hcW5.frozen (p := ⟨w.heap.size + 1, 0, none⟩) (by dsimp only; omega) (by dsimp only; omega)).trans df1), m1, by rw [← hW9]; exact hAl8.guard _⟩
          have hK9 : Hid (W9.heap[D]? = some (.deferred (some []))) := (hc59.block D (by omega) (fun hn => hn mD)).trans ((hcW5.block D hDl (by omega)).trans HK.out)
          have hB9 : Below w.heap.size w W9 := (hBw.trans (hcW5.below (by omega) (fun k hk => by omega))).trans (hc59.below (by omega) (fun k hk hn => hn (p1 _ (hPr1 _ (by omega)))))
          rw [hW9]
          clear hW9 xb xx0 xx1 xr1 d0 d1 df1
          refine turns _ (by rfl) w.heap.size (w.heap.size + 1) w1.heap.size x b rb w5.heap.size Bx w8.heap.size v' lv ws vs rvp rvc _ _ _ Pr6 W9 hF9 hok hT9 _ _ _ _ _ _ _ _ _ _ _ _ _ _ _ _ _ _ _ _ _ _ _ _ _ _ _ _ _ _ _ _ _ _ _ _ _ _ _ _ _ _ _ _ _ _ _ _ _ _ _ _ _ _ _ _ _ _ _ _ _ _ _ _ _ _ _ _ _ _ _ _ _ _ _ _ _ _ _ _ _ _ _ _ _ _ _ _ _ _ _ _ _ _ _ _ _ _ _ _ _ _ _ _ _ _ _ _ _ _ _ _ _ _ _ _ _ _ _ _ _ _ _ _ _ _ _ _ _ _ _ _ _ _ _ _ _ _ _ _ _ _ _ _ _ ?_
          intro D1 D2 bt' y15 y88 y89 y90 y91 y92 y135 y136 y137 y138 y139 y140 y141 y142 y143 y144 y145 y146 y147 y148 W' hD1 hD2 hne hr hrf hcl hK1 hK2
          have HK1 : Hid (W'.heap[D1]? = some (.deferred (some []))) := hK1
          have HK2 : Hid (W'.heap[D2]? = some (.deferred (some []))) := hK2
          have HK0 : Hid (W'.heap[D]? = some (.deferred (some []))) := (hcl.block D (by omega) (fun hn => hn mD)).trans hK9.out
          have hzl := hcl.size
          have hBl : Below w.heap.size w W' := hB9.trans (hcl.below (by omega) (fun k hk hn => hn (p1 _ (hPr1 _ (by omega)))))
          have hrl : w.heap.size + 1 < W'.heap.size := by omega
          clear hK1 hK2
          gi_wp2_with fail
          obtain ⟨X0, hX0⟩ : ∃ X0, W'.setCell ⟨w.heap.size + 1, 0, none⟩ (.bool true) = X0 := ⟨_, rfl⟩
          have hKx : ∀ k, W'.heap[k]? = some (.deferred (some [])) → k ≠ w.heap.size + 1 → X0.heap[k]? = some (.deferred (some [])) := fun k hk hn => by rw [← hX0]; exact (Below.heap_setCell _ _ _ _ hn).trans hk
          have a2 : X0.heap[D2]? = some (.deferred (some [])) := hKx D2 HK2.out (by omega)
          have a1 : X0.heap[D1]? = some (.deferred (some [])) := hKx D1 HK1.out (by omega)
          have a0 : X0.heap[D]? = some (.deferred (some [])) := hKx D HK0.out (by omega)
          have r0 : X0.cell? ⟨w.heap.size + 1, 0, none⟩ = some (.bool true) := by rw [← hX0]; exact World.cell?_setCell_same _ _ _ hr
          have e0 : Below w.heap.size w X0 := by rw [← hX0]; exact hBl.setCell (p := ⟨w.heap.size + 1, 0, none⟩) (by dsimp only; omega) _
          rw [hX0]
          clear hX0 hKx
          refine ⟨by simp, .inl ⟨_, _, rfl, run_takeDeferred a2, ?_⟩⟩
          have b1 : (X0.putObj D2 (.deferred none)).heap[D1]? = some (.deferred (some [])) := (World.putObj_heap_other (by omega)).trans a1
          have b0 : (X0.putObj D2 (.deferred none)).heap[D]? = some (.deferred (some [])) := (World.putObj_heap_other (by omega)).trans a0
          have r1 := cell_kept r0 (grownBy_putObj' _ D2 (.deferred none)) (fun r e => by cases e; exact ⟨_, a2, rfl⟩)
          have e1 := e0.trans (belowK_b (w := w) (Nat.le_refl _) X0 D2 _ (.deferred none) (by omega) a2 rfl rfl)
          clear a2 a1 a0 r0 e0
          generalize X0.putObj D2 (.deferred none) = X1 at b1 b0 r1 e1 ⊢
          refine ⟨by simp, .inl ⟨_, _, rfl, run_takeDeferred b1, ?_⟩⟩
          have q0 : (X1.putObj D1 (.deferred none)).heap[D]? = some (.deferred (some [])) := (World.putObj_heap_other (by omega)).trans b0
          have r2 := cell_kept r1 (grownBy_putObj' _ D1 (.deferred none)) (fun r e => by cases e; exact ⟨_, b1, rfl⟩)
          have e2 := e1.trans (belowK_b (w := w) (Nat.le_refl _) X1 D1 _ (.deferred none) (by omega) b1 rfl rfl)
          clear b1 b0 r1 e1
          generalize X1.putObj D1 (.deferred none) = X2 at q0 r2 e2 ⊢
          refine ⟨by simp, .inl ⟨_, _, rfl, run_takeDeferred q0, ?_⟩⟩
          have r3 := cell_kept r2 (grownBy_putObj' _ D (.deferred none)) (fun r e => by cases e; exact ⟨_, q0, rfl⟩)
          have e3 := e2.trans (belowK_b (w := w) (Nat.le_refl _) X2 D _ (.deferred none) (by omega) q0 rfl rfl)
          refine ⟨.bool true, ?_, rfl, e3⟩
          simp [results, Tryz.f4, go_sem, r3]
end Go.Proofs.YtgebcnnenhgkcaaGreat
