/- A Court of the program beside the document's: how both begin. -/
import Derived.Deep.RegionHeld3
import Derived.Test.YtgebcnnenhgkcaaGreatB14
import Derived.Test.YtgebcnnenhgkcaaGreatB15
import Derived.Test.YtgebcnnenhgkcaaGreatB03
import Derived.Test.YtgebcnnenhgkcaaGreatB12
import Derived.Test.YtgebcnnenhgkcaaGreatB02
namespace Go.Proofs.YtgebcnnenhgkcaaGreat
open Go.RowKit

/-- Both Courts in memory, each in blocks of its own, none of them in Pr. -/
structure BothAt (w : World) (Pr : Nat → Prop) (x b rb : Nat) (S R : Nat → Prop) (ws ps : List Int) (vs : List Vt) : Prop where
  box : w.heap[x]? = some (.cells #[.pointer (some ⟨b, 0, none⟩), .pointer (some ⟨rb, 0, none⟩)] 38 (0, 0))
  court : ∃ wv pv vv, CourtAt w b S 0 ws ps vs wv pv vv
  doc : ∃ wv pv vv, RefAt w rb R ws ps vs wv pv vv
  dis : ∀ k, S k → ¬ R k
  xS : ¬ S x
  xR : ¬ R x
  lowx : ¬ Pr x
  lowS : ∀ k, S k → ¬ Pr k
  lowR : ∀ k, R k → ¬ Pr k
  le : ∀ k, Pr k → k < w.heap.size
  okw : okW ws = true
  T : Tree ps
  len : vs.length ≤ 300
  okv : OkV ws.length ps vs

def Both (w : World) (Pr : Nat → Prop) (x : Nat) (ws ps : List Int) (vs : List Vt) : Prop := ∃ b rb S R, BothAt w Pr x b rb S R ws ps vs

theorem tree_root : Tree [0] := ⟨by simp, by simp, by simp, fun i hi hl => by simp at hl; omega⟩

theorem okW_len {ws : List Int} (h : okW ws = true) : 0 < ws.length ∧ ws.length ≤ 12 := by simp [okW] at h; omega

theorem num_at (k : Int) (w : World) : Calls Tryz.prog 42 #[.int .i64 k] w fun e w' => e = .returned (.int .i64 k) ∧ w' = w := by
  go_enter Tryz.func42, Tryz.ntmps42
  go_wp2
  go_ret
  exact ⟨rfl, rfl⟩

set_option maxRecDepth 100000 in
set_option maxHeartbeats 1000000 in
theorem begun_noA (p : Option Addr) (c : Nat) (ws : List Int) (w : World) (hx : IntsAt w p ws) (hn : p = none → c = 0 ∧ ws = []) (hb : (ws.length + 3) * 8 ≤ 140737488355328) (hok : okW ws = false) :
    Calls Tryz.prog 10 #[.slice p ws.length c] w fun e w' => e = .returned (.tuple #[.pointer none, .bool true]) ∧ Below w.heap.size w w' := by
  have hlm : Hid (ws.length + 3 ≤ maxLen) := by show _ ≤ _; unfold maxLen; omega
  have hlm' : Hid (ws.length ≤ maxLen) := by show _ ≤ _; have := hlm.out; omega
  go_enter Tryz.func10, Tryz.ntmps10
  go_wp2_with fail
  refine (lent_any p c ws _ hx hn hb).mono ?_
  rintro e w1 ⟨g1, cap, rfl, hown, hg1, hB1⟩
  clear hb
  obtain ⟨cur, hcur⟩ := row_type hown (k := g1) rfl
  have hcap : ws.length + 3 ≤ cap ∧ cur.size = cap := by
    rcases hown.2 with ⟨h', _⟩ | ⟨_, _, cur', h', _, hg', hle, _, hs, _⟩
    · simp at h'
    · simp only [Value.slice.injEq, Option.some.injEq, Addr.mk.injEq] at h'
      obtain ⟨⟨rfl, _⟩, _, rfl⟩ := h'
      rw [hcur] at hg'
      simp at hg'
      subst hg'
      exact ⟨hle, by omega⟩
  obtain ⟨hcap1, hcap2⟩ := hcap
  have hcells : ∀ j, j < (ws ++ [77, 77, 77]).length → w1.cell? ⟨g1, j, none⟩ = some (I64 ((ws ++ [77, 77, 77])[j]?.getD 0)) := fun j hj => by
    rw [hown.cellAt j (by simpa using hj)]
    simp only [List.getElem?_map]
    rw [List.getElem?_eq_getElem hj]; rfl
  have hIl : IntsAt w1 (some ⟨g1, 0, none⟩) ws := IntsAt.take (ys := [77, 77, 77]) (.inr ⟨g1, 0, rfl, fun j hj => by simpa using hcells j hj⟩)
  have hIw : IntsAt w1 p ws := hx.below hB1
  have n0 : (ws.length : Int) ≤ (cap : Int) := by omega
  have n2 : (0 : Int) ≤ (ws.length : Int) := by omega
  have HC : Hid (w1.heap[g1]? = some (.cells cur 3 (0, 0))) := hcur
  have HCE : Hid (∀ j, j < (ws ++ [77, 77, 77]).length → w1.cell? ⟨g1, j, none⟩ = some (I64 ((ws ++ [77, 77, 77])[j]?.getD 0))) := hcells
  have HS2 : Hid (cur.size = cap) := hcap2
  clear hcur hcells hcap2 hx
  go_wp2_with fail
  refine (new_no (some ⟨g1, 0, none⟩) cap ws _ hIl hlm'.out hok).mono ?_
  rintro e w2 ⟨rfl, rfl⟩
  go_wp2_with fail
  refine (refNew_no p c ws _ hIw hlm'.out hok).mono ?_
  rintro e w3 ⟨rfl, rfl⟩
  go_wp2_with fail
  refine (kept_at g1 cap c p ws _ HCE.out hIw hlm.out hcap1).mono ?_
  rintro e w4 ⟨rfl, n, rfl⟩
  go_wp2_with fail
  refine (over_at g1 cap (ws.length + 3) cur _ ?_ ?_ hlm.out).mono ?_
  · exact HC.out
  · rw [HS2.out]; exact hcap1
  rintro e w5 ⟨rfl, hc5, cur5, hcur5⟩
  have hB5 : Below w.heap.size w w5 := (below_drewN hB1 n).trans (hc5.below (by have := hB1.size; simpa using this) (fun k hk e => by omega))
  clear hcur5 HC HCE HS2
  go_wp2_with (go_at_call 42; refine (num_at _ _).mono ?_; rintro e w6 ⟨rfl, rfl⟩)
  go_ret2
  exact ⟨rfl, hB5⟩
set_option maxRecDepth 100000 in
set_option maxHeartbeats 1000000 in
theorem begun_okA (p : Option Addr) (c : Nat) (ws : List Int) (w : World) (hx : IntsAt w p ws) (hn : p = none → c = 0 ∧ ws = []) (hb : (ws.length + 3) * 8 ≤ 140737488355328) (hok : okW ws = true) :
    Calls Tryz.prog 10 #[.slice p ws.length c] w fun e w' => ∃ x, e = .returned (.tuple #[.pointer (some ⟨x, 0, none⟩), .bool true]) ∧ Both w' (fun k => k < w.heap.size) x ws [0] [] ∧ Below w.heap.size w w' := by
  have hlm : Hid (ws.length + 3 ≤ maxLen) := by show _ ≤ _; unfold maxLen; omega
  have hlm' : Hid (ws.length ≤ maxLen) := by show _ ≤ _; have := hlm.out; omega
  go_enter Tryz.func10, Tryz.ntmps10
  go_wp2_with fail
  refine (lent_any p c ws _ hx hn hb).mono ?_
  rintro e w1 ⟨g1, cap, rfl, hown, hg1, hB1⟩
  clear hb
  obtain ⟨cur, hcur⟩ := row_type hown (k := g1) rfl
  have hcap : ws.length + 3 ≤ cap ∧ cur.size = cap := by
    rcases hown.2 with ⟨h', _⟩ | ⟨_, _, cur', h', _, hg', hle, _, hs, _⟩
    · simp at h'
    · simp only [Value.slice.injEq, Option.some.injEq, Addr.mk.injEq] at h'
      obtain ⟨⟨rfl, _⟩, _, rfl⟩ := h'
      rw [hcur] at hg'
      simp at hg'
      subst hg'
      exact ⟨hle, by omega⟩
  obtain ⟨hcap1, hcap2⟩ := hcap
  have hcells : ∀ j, j < (ws ++ [77, 77, 77]).length → w1.cell? ⟨g1, j, none⟩ = some (I64 ((ws ++ [77, 77, 77])[j]?.getD 0)) := fun j hj => by
    rw [hown.cellAt j (by simpa using hj)]
    simp only [List.getElem?_map]
    rw [List.getElem?_eq_getElem hj]; rfl
  have hIl : IntsAt w1 (some ⟨g1, 0, none⟩) ws := IntsAt.take (ys := [77, 77, 77]) (.inr ⟨g1, 0, rfl, fun j hj => by simpa using hcells j hj⟩)
  have hIw : IntsAt w1 p ws := hx.below hB1
  have n0 : (ws.length : Int) ≤ (cap : Int) := by omega
  have n2 : (0 : Int) ≤ (ws.length : Int) := by omega
  have HC : Hid (w1.heap[g1]? = some (.cells cur 3 (0, 0))) := hcur
  have HCE : Hid (∀ j, j < (ws ++ [77, 77, 77]).length → w1.cell? ⟨g1, j, none⟩ = some (I64 ((ws ++ [77, 77, 77])[j]?.getD 0))) := hcells
  have HS2 : Hid (cur.size = cap) := hcap2
  clear hcur hcells hcap2 hx
  obtain ⟨hl0, hl12⟩ := okW_len hok
  have hg1l : g1 < w1.heap.size := (hown.lt g1 rfl).2
  go_wp2_with fail
  refine (new_ok g1 0 cap ws _ (fun j hj => ?_) hok).mono ?_
  · have := HCE.out j (by simp; omega)
    rw [List.getElem?_append_left hj] at this
    simpa using this
  rintro e w2 ⟨b, S, wv, pv, rfl, hC2, hB2, hS2⟩
  rcases hIw with h' | ⟨g, o, rfl, hcw⟩
  · subst h'; simp at hl0
  go_wp2_with fail
  refine (refNew_ok g o c ws _ (fun j hj => ?_) hok).mono ?_
  · exact (hB2.cell (p := ⟨g, o + j, none⟩) (World.block_lt_of_cell? w1 _ (hcw j hj))).trans (hcw j hj)
  rintro e w3 ⟨rb, R, rwv, rpv, rfl, hR3, hB3, hRl⟩
  have hz2 := hB2.size
  have hz3 := hB3.size
  have hB13 : Below w1.heap.size w1 w3 := hB2.trans (hB3.mono hz2)
  have hC3 := hC2.kept (Chg.of_below (fun _ => False) hB3) (fun _ _ hf => hf)
  go_wp2_with fail
  refine (kept_at g1 cap c (some ⟨g, o, none⟩) ws _ (fun j hj => ?_) (.inr ⟨g, o, rfl, fun j hj => ?_⟩) hlm.out hcap1).mono ?_
  · exact (hB13.cell (p := ⟨g1, j, none⟩) hg1l).trans (HCE.out j hj)
  · exact (hB13.cell (p := ⟨g, o + j, none⟩) (World.block_lt_of_cell? w1 _ (hcw j hj))).trans (hcw j hj)
  rintro e w4 ⟨rfl, n, rfl⟩
  go_wp2_with fail
  refine (over_at g1 cap (ws.length + 3) cur _ ?_ ?_ hlm.out).mono ?_
  · exact (hB13.block g1 hg1l).trans HC.out
  · rw [HS2.out]; exact hcap1
  rintro e w5 ⟨rfl, hc5, cur5, hcur5⟩
  have hz1 := hB1.size
  have hB5 : Below w.heap.size w w5 := (below_drewN (hB1.trans (hB13.mono hz1)) n).trans (hc5.below (by show _ ≤ w3.heap.size; omega) (fun k hk e => by omega))
  have hcd : Chg (fun k => k = g1) w3 w5 := ⟨hc5.os, hc5.tape, hc5.output, hc5.size, hc5.block⟩
  have hC5 := hC3.kept hcd (fun k hk e => by have := hS2 k hk; omega)
  have hR5 := hR3.kept hcd (fun k hk e => by have := hRl k hk; omega)
  have hz5 := hcd.size
  clear hcur5 HC HCE HS2 hcw
  go_wp2_with (go_at_call 42; refine (num_at _ _).mono ?_; rintro e w6 ⟨rfl, rfl⟩)
  go_ret2
  have hCn := hC5.kept (Chg.alloc (Chg.refl (fun _ => False) _) (.cells #[.pointer (some ⟨b, 0, none⟩), .pointer (some ⟨rb, 0, none⟩)] 38)) (fun _ _ hf => hf)
  have hRn := hR5.kept (Chg.alloc (Chg.refl (fun _ => False) _) (.cells #[.pointer (some ⟨b, 0, none⟩), .pointer (some ⟨rb, 0, none⟩)] 38)) (fun _ _ hf => hf)
  refine ⟨w6.heap.size, rfl, ⟨b, rb, S, R, heap_alloc_new w6 _, ⟨_, _, _, hCn⟩, ⟨_, _, _, hRn⟩, fun k hk hk' => ?_, fun hk => ?_, fun hk => ?_, ?_, fun k hk => ?_, fun k hk => ?_, fun k hk => ?_, hok, tree_root, by simp, ⟨by simp, by simp, by simp, List.nodup_nil⟩⟩, hB5.alloc hB5.size _⟩
  · have h1 := hC2.lt k hk
    have h2 := hRl k hk'
    omega
  · have := hC5.lt _ hk; omega
  · have := hR5.lt _ hk; omega
  · omega
  · have := hS2 k hk; omega
  · have := hRl k hk; omega
  · simp; omega
end Go.Proofs.YtgebcnnenhgkcaaGreat
/- The steps of a script over both Courts: Block and Vote. -/
namespace Go.Proofs.YtgebcnnenhgkcaaGreat
open Go.RowKit

section
variable {w w' : World} {Pr : Nat → Prop} {x b rb : Nat} {S R : Nat → Prop} {ws ps : List Int} {vs : List Vt}

theorem BothAt.x0 (h : BothAt w Pr x b rb S R ws ps vs) : w.cell? ⟨x, 0, none⟩ = some (.pointer (some ⟨b, 0, none⟩)) := by rw [cell_of_heap h.box]; rfl
theorem BothAt.x1 (h : BothAt w Pr x b rb S R ws ps vs) : w.cell? ⟨x, 1, none⟩ = some (.pointer (some ⟨rb, 0, none⟩)) := by rw [cell_of_heap h.box]; rfl
theorem BothAt.ltx (h : BothAt w Pr x b rb S R ws ps vs) : x < w.heap.size := (Array.getElem?_eq_some_iff.1 h.box).1

/-- The program's Court has turned. -/
theorem BothAt.courtTo {S' : Nat → Prop} (h : BothAt w Pr x b rb S R ws ps vs) (hc : Chg S w w') (hs : ∀ k, S' k → S k ∨ w.heap.size ≤ k) :
    w'.heap[x]? = w.heap[x]? ∧ (∃ wv pv vv, RefAt w' rb R ws ps vs wv pv vv) ∧ (∀ k, S' k → ¬ R k) ∧ ¬ S' x ∧ (∀ k, S' k → ¬ Pr k) ∧ Chg (fun k => ¬ Pr k) w w' := by
  obtain ⟨rwv, rpv, rvv, hR⟩ := h.doc
  refine ⟨hc.block x h.ltx h.xS, ⟨rwv, rpv, rvv, hR.kept hc (fun k hk hk' => h.dis k hk' hk)⟩, fun k hk hk' => ?_, fun hk => ?_, fun k hk hp => ?_, hc.mono (fun k _ hk => h.lowS k hk)⟩
  · rcases hs k hk with h1 | h1
    · exact h.dis k h1 hk'
    · have := hR.lt k hk'; omega
  · rcases hs x hk with h1 | h1
    · exact h.xS h1
    · have := h.ltx; omega
  · rcases hs k hk with h1 | h1
    · exact h.lowS k h1 hp
    · have := h.le k hp; omega
end

theorem OkV.blk {n : Nat} {ps : List Int} {vs : List Vt} (h : OkV n ps vs) (hT : Tree ps) (p : Int) : OkV n (blkP ps p) vs := by
  have hT2 := blkP_tree hT p
  unfold blkP at *
  split
  · exact h
  · rename_i h1
    rw [if_neg h1] at hT2
    split
    · exact h
    · rename_i h2
      rw [if_neg h2] at hT2
      refine ⟨h.v, fun y hy => ⟨(h.t y hy).1, by have := (h.t y hy).2; simp; omega⟩, fun y hy => ?_, h.nd⟩
      have := h.a y hy
      rw [ahead_mem] at this ⊢
      rw [up_append hT hT2 _ _ (h.t y hy).1 (h.t y hy).2 (Nat.le_refl _)]
      exact this
theorem OkV.vot {n : Nat} {ps : List Int} {vs : List Vt} (h : OkV n ps vs) (x : Vt) : OkV n ps (votV n ps vs x) := by
  unfold votV
  split
  · rename_i hf
    unfold manyV
    split
    · exact h
    · cases hv : hasB n x.v
      · simp [fault, hv] at hf
      cases hs : hasB ps.length x.s
      · simp [fault, hv, hs] at hf
      cases ht : hasB ps.length x.t
      · simp [fault, hv, hs, ht] at hf
      cases ha : ahead ps x.s x.t
      · simp [fault, hv, hs, ht, ha] at hf
      cases hany : vs.any (fun y => x.is y)
      · obtain ⟨t0, t1⟩ := hasB_iff.1 ht
        have hm : ∀ y, y ∈ vs ++ [x] → y ∈ vs ∨ y = x := fun y hy => by simpa using hy
        refine ⟨fun y hy => ?_, fun y hy => ?_, fun y hy => ?_, ?_⟩
        · rcases hm y hy with h1 | rfl
          · exact h.v y h1
          · exact hasB_iff.1 hv
        · rcases hm y hy with h1 | rfl
          · exact h.t y h1
          · exact ⟨t0, by omega⟩
        · rcases hm y hy with h1 | rfl
          · exact h.a y h1
          · exact ha
        · rw [List.nodup_append]
          refine ⟨h.nd, by simp, fun a ha' b hb e => ?_⟩
          simp only [List.mem_singleton] at hb
          subst hb
          rw [e] at ha'
          rw [List.any_eq_false] at hany
          exact hany _ ha' (Vt.is_iff.2 rfl)
      · simp [fault, hv, hs, ht, ha, hany] at hf
  · exact h

set_option maxHeartbeats 1000000 in
theorem blockLaw_at (Pr : Nat → Prop) (x : Nat) (ws ps : List Int) (vs : List Vt) (p : Int) (w : World) (h : Both w Pr x ws ps vs) :
    Calls Tryz.prog 43 #[.pointer (some ⟨x, 0, none⟩), .int .i64 p] w fun e w' => e = .returned (.bool true) ∧ Both w' Pr x ws (blkP ps p) vs ∧ Chg (fun k => ¬ Pr k) w w' := by
  obtain ⟨b, rb, S, R, hb⟩ := h
  obtain ⟨wv, pv, vv, hC⟩ := hb.court
  obtain ⟨hl0, _⟩ := okW_len hb.okw
  have hx0 := hb.x0
  go_enter Tryz.func43, Tryz.ntmps43
  go_wp2_with fail
  refine (block_at b S ws ps vs wv pv vv p _ hC hb.T hl0).mono ?_
  rintro e w1 ⟨rfl, S', pv', hC1, hc1, hs1⟩
  obtain ⟨hbx, ⟨rwv, rpv, rvv, hR1⟩, hdis, hxS, hlow, hB1⟩ := hb.courtTo hc1 hs1
  have hx1 : w1.cell? ⟨x, 1, none⟩ = some (.pointer (some ⟨rb, 0, none⟩)) := (World.cell?_of_block hbx).trans hb.x1
  clear hx0
  go_wp2_with fail
  refine (refBlock_at rb R ws ps vs rwv rpv rvv p _ hR1 hb.T).mono ?_
  rintro e w2 ⟨rfl, R', rpv', hR2, hc2, hs2⟩
  have hq : (blkN ps p == blkN ps p) = true := by simp
  have hq2 : (blkE ps p == blkE ps p) = true := by simp
  have hltx := hb.ltx
  have hz1 := hc1.size
  have hz2 := hc2.size
  go_wp2_with (go_at_call 42; refine (num_at _ _).mono ?_; rintro e w6 ⟨rfl, rfl⟩)
  go_ret
  refine ⟨by simp, ⟨b, rb, S', R', ?_, ⟨_, _, _, hC1.kept hc2 hdis⟩, ⟨_, _, _, hR2⟩, fun k hk hk' => ?_, hxS, fun hk => ?_, hb.lowx, hlow, fun k hk hp => ?_, fun k hp => ?_, hb.okw, blkP_tree hb.T p, hb.len, hb.okv.blk hb.T p⟩, ?_⟩
  · exact (hc2.block x (by omega) hb.xR).trans (hbx.trans hb.box)
  · rcases hs2 k hk' with h1 | h1
    · exact hdis k hk h1
    · have := hC1.lt k hk; omega
  · rcases hs2 x hk with h1 | h1
    · exact hb.xR h1
    · omega
  · rcases hs2 k hk with h1 | h1
    · exact hb.lowR k h1 hp
    · have := hb.le k hp; omega
  · have := hb.le k hp; omega
  · exact hB1.trans (hc2.mono (fun k _ hk => hb.lowR k hk))

/-- A step of a script, as a value. -/
abbrev opVal (kd k a b c : Int) (wsv : Value) : Value := .agg #[I64 kd, I64 k, I64 a, I64 b, I64 c, wsv]

set_option maxRecDepth 100000 in
set_option maxHeartbeats 2000000 in
theorem voteLaw_at (Pr : Nat → Prop) (x : Nat) (ws ps : List Int) (vs : List Vt) (kd k a b' c : Int) (wsv : Value) (w : World) (h : Both w Pr x ws ps vs) :
    Calls Tryz.prog 44 #[.pointer (some ⟨x, 0, none⟩), opVal kd k a b' c wsv] w fun e w' => e = .returned (.bool true) ∧ Both w' Pr x ws ps (votV ws.length ps vs ⟨a, b', c⟩) ∧ Chg (fun k => ¬ Pr k) w w' := by
  obtain ⟨b, rb, S, R, hb⟩ := h
  obtain ⟨wv, pv, vv, hC⟩ := hb.court
  obtain ⟨hl0, _⟩ := okW_len hb.okw
  have hx0 := hb.x0
  have hx1 := hb.x1
  have hltx := hb.ltx
  go_enter Tryz.func44, Tryz.ntmps44
  go_wp2_with fail
  obtain ⟨W1, hW1⟩ : ∃ W1, w.alloc (.cells #[I64 kd, I64 k, I64 a, I64 b', I64 c, wsv] 34) = W1 := ⟨_, rfl⟩
  have hB1 : Below w.heap.size w W1 := by rw [← hW1]; exact (Below.refl _ _).alloc (Nat.le_refl _) _
  have hs1 : W1.heap.size = w.heap.size + 1 := by rw [← hW1]; simp
  have hh1 : W1.heap[w.heap.size]? = some (.cells #[I64 kd, I64 k, I64 a, I64 b', I64 c, wsv] 34 (0, 0)) := by rw [← hW1]; exact heap_alloc_new w _
  have k2 : W1.cell? ⟨w.heap.size, 2, none⟩ = some (I64 a) := by rw [cell_of_heap hh1]; rfl
  have k3 : W1.cell? ⟨w.heap.size, 3, none⟩ = some (I64 b') := by rw [cell_of_heap hh1]; rfl
  have k4 : W1.cell? ⟨w.heap.size, 4, none⟩ = some (I64 c) := by rw [cell_of_heap hh1]; rfl
  rw [hW1]
  clear hW1 hh1
  have kx0 : W1.cell? ⟨x, 0, none⟩ = some (.pointer (some ⟨b, 0, none⟩)) := (hB1.cell (p := ⟨x, 0, none⟩) hltx).trans hx0
  have kx1 : W1.cell? ⟨x, 1, none⟩ = some (.pointer (some ⟨rb, 0, none⟩)) := (hB1.cell (p := ⟨x, 1, none⟩) hltx).trans hx1
  have hC1 : CourtAt W1.drew b S 0 ws ps vs wv pv vv := hC.kept (Chg.of_below (fun _ => False) hB1.drew) (fun _ _ hf => hf)
  have hnS : ¬ S w.heap.size := fun hk => by have := hC.lt _ hk; omega
  go_region_held3 (fun w' => w'.cell? ⟨x, 0, none⟩ = some (.pointer (some ⟨b, 0, none⟩)) ∧ w'.cell? ⟨x, 1, none⟩ = some (.pointer (some ⟨rb, 0, none⟩)) ∧ w'.cell? ⟨w.heap.size, 2, none⟩ = some (I64 a) ∧ w'.cell? ⟨w.heap.size, 3, none⟩ = some (I64 b') ∧ w'.cell? ⟨w.heap.size, 4, none⟩ = some (I64 c))
    (first | (refine ⟨by assumption, by assumption, by assumption, by assumption, by assumption⟩) | (refine ⟨?_, ?_, ?_, ?_, ?_⟩ <;> simpa))
    ((go_at_call 13; refine (vote_at b S ws ps vs wv pv vv a b' c _ hC1 hb.T hl0 hb.len).mono ?_; rintro e w2 ⟨rfl, S', vv', hC2, hc2, hs2⟩
      have f0 : w2.cell? ⟨x, 0, none⟩ = some (.pointer (some ⟨b, 0, none⟩)) := hc2.cell (w := W1.drew) kx0 hb.xS
      have f1 : w2.cell? ⟨x, 1, none⟩ = some (.pointer (some ⟨rb, 0, none⟩)) := hc2.cell (w := W1.drew) kx1 hb.xS
      have f2 : w2.cell? ⟨w.heap.size, 2, none⟩ = some (I64 a) := hc2.cell (w := W1.drew) k2 hnS
      have f3 : w2.cell? ⟨w.heap.size, 3, none⟩ = some (I64 b') := hc2.cell (w := W1.drew) k3 hnS
      have f4 : w2.cell? ⟨w.heap.size, 4, none⟩ = some (I64 c) := hc2.cell (w := W1.drew) k4 hnS))
  have hz2 : w.heap.size + 1 ≤ w2.heap.size := by have := hc2.size; rw [← hs1]; exact this
  have hcw2 : Chg S w w2 := (Chg.of_below S hB1.drew).trans hc2
  have hsw2 : ∀ k, S' k → S k ∨ w.heap.size ≤ k := fun k hk => (hs2 k hk).imp id (fun hle => Nat.le_trans hB1.size hle)
  obtain ⟨hbx, ⟨rwv, rpv, rvv, hR2⟩, hdis, hxS, hlow, hB2⟩ := hb.courtTo hcw2 hsw2
  have hnR : ¬ R w.heap.size := fun hk => by
    obtain ⟨_, _, _, hR⟩ := hb.doc
    have := hR.lt _ hk; omega
  clear kx0 kx1 k2 k3 k4 hC1 hx0 hx1
  have hR2' : RefAt w2.drew rb R ws ps vs rwv rpv rvv := hR2.kept (Chg.drew (Chg.refl (fun _ => False) _)) (fun _ _ hf => hf)
  go_wp2_with fail
  go_region_held3 (fun w' => w'.cell? ⟨x, 1, none⟩ = some (.pointer (some ⟨rb, 0, none⟩)) ∧ w'.cell? ⟨w.heap.size, 2, none⟩ = some (I64 a) ∧ w'.cell? ⟨w.heap.size, 3, none⟩ = some (I64 b') ∧ w'.cell? ⟨w.heap.size, 4, none⟩ = some (I64 c))
    (first | (refine ⟨by assumption, by assumption, by assumption, by assumption⟩) | (refine ⟨?_, ?_, ?_, ?_⟩ <;> simpa))
    ((go_at_call 74; refine (refVote_at rb R ws ps vs rwv rpv rvv ⟨a, b', c⟩ _ hR2' hb.T hl0 hb.len).mono ?_; rintro e w3 ⟨rfl, R', rvv', hR3, hc3, hs3⟩
      have y1 : w3.cell? ⟨x, 1, none⟩ = some (.pointer (some ⟨rb, 0, none⟩)) := hc3.cell (w := w2.drew) f1 hb.xR
      have y2 : w3.cell? ⟨w.heap.size, 2, none⟩ = some (I64 a) := hc3.cell (w := w2.drew) f2 hnR
      have y3 : w3.cell? ⟨w.heap.size, 3, none⟩ = some (I64 b') := hc3.cell (w := w2.drew) f3 hnR
      have y4 : w3.cell? ⟨w.heap.size, 4, none⟩ = some (I64 c) := hc3.cell (w := w2.drew) f4 hnR))
  have hc3' : Chg R w2 w3 := (Chg.drew (Chg.refl R w2)).trans hc3
  have hq : (votE ws.length ps vs ⟨a, b', c⟩ == votE ws.length ps vs ⟨a, b', c⟩) = true := by simp
  have hz3 := hc3'.size
  go_wp2_with (go_at_call 42; refine (num_at _ _).mono ?_; rintro e w6 ⟨rfl, rfl⟩)
  go_ret
  refine ⟨by simp, ⟨b, rb, S', R', ?_, ⟨_, _, _, hC2.kept hc3' hdis⟩, ⟨_, _, _, hR3⟩, fun k hk hk' => ?_, hxS, fun hk => ?_, hb.lowx, hlow, fun k hk hp => ?_, fun k hp => ?_, hb.okw, hb.T, votV_len hb.len, hb.okv.vot _⟩, ?_⟩
  · exact (hc3'.block x (by omega) hb.xR).trans (hbx.trans hb.box)
  · rcases hs3 k hk' with h1 | h1
    · exact hdis k hk h1
    · have h2 := hC2.lt k hk
      have h3 : w2.heap.size ≤ k := h1
      omega
  · rcases hs3 x hk with h1 | h1
    · exact hb.xR h1
    · have h3 : w2.heap.size ≤ x := h1
      omega
  · rcases hs3 k hk with h1 | h1
    · exact hb.lowR k h1 hp
    · have h3 : w2.heap.size ≤ k := h1
      have := hb.le k hp; omega
  · have := hb.le k hp; omega
  · exact hB2.trans (hc3'.mono (fun k _ hk => hb.lowR k hk))

/-- Both Courts are alike. -/
def Alike2 (w : World) (Pr : Nat → Prop) (x : Nat) (ws : List Int) : Prop := ∃ ps vs, Both w Pr x ws ps vs

theorem BothAt.kept {w w' : World} {Pr : Nat → Prop} {x b rb : Nat} {S R : Nat → Prop} {ws ps : List Int} {vs : List Vt} (hb : BothAt w Pr x b rb S R ws ps vs) (hB : Below w.heap.size w w') : BothAt w' Pr x b rb S R ws ps vs := by
  obtain ⟨wv, pv, vv, hC⟩ := hb.court
  obtain ⟨rwv, rpv, rvv, hR⟩ := hb.doc
  exact ⟨(hB.block x hb.ltx).trans hb.box, ⟨_, _, _, hC.kept (Chg.of_below (fun _ => False) hB) (fun _ _ hf => hf)⟩, ⟨_, _, _, hR.kept (Chg.of_below (fun _ => False) hB) (fun _ _ hf => hf)⟩, hb.dis, hb.xS, hb.xR, hb.lowx, hb.lowS, hb.lowR, fun k hk => Nat.lt_of_lt_of_le (hb.le k hk) hB.size, hb.okw, hb.T, hb.len, hb.okv⟩
theorem Both.kept {w w' : World} {Pr : Nat → Prop} {x : Nat} {ws ps : List Int} {vs : List Vt} (h : Both w Pr x ws ps vs) (hB : Below w.heap.size w w') : Both w' Pr x ws ps vs := by
  obtain ⟨b, rb, S, R, hb⟩ := h
  exact ⟨b, rb, S, R, hb.kept hB⟩

/-- What is new is in none of the Courts' blocks. -/
theorem Both.guard {w : World} {Pr : Nat → Prop} {x : Nat} {ws ps : List Int} {vs : List Vt} (h : Both w Pr x ws ps vs) (o : Obj) : Both (w.alloc o) (fun k => Pr k ∨ k = w.heap.size) x ws ps vs := by
  obtain ⟨b, rb, S, R, hb⟩ := h
  have hb' := hb.kept ((Below.refl _ w).alloc (Nat.le_refl _) o)
  obtain ⟨_, _, _, hC⟩ := hb.court
  obtain ⟨_, _, _, hR⟩ := hb.doc
  refine ⟨b, rb, S, R, hb'.box, hb'.court, hb'.doc, hb'.dis, hb'.xS, hb'.xR, ?_, ?_, ?_, ?_, hb'.okw, hb'.T, hb'.len, hb'.okv⟩
  · rintro (h1 | h1)
    · exact hb.lowx h1
    · have := hb.ltx; omega
  · rintro k hk (h1 | h1)
    · exact hb.lowS k hk h1
    · have := hC.lt k hk; omega
  · rintro k hk (h1 | h1)
    · exact hb.lowR k hk h1
    · have := hR.lt k hk; omega
  · rintro k (h1 | h1)
    · have := hb.le k h1; simp; omega
    · simp; omega

set_option maxHeartbeats 2000000 in
/-- One step of the kinds up to Vote. -/
theorem step_at (Pr : Nat → Prop) (x : Nat) (ws ps : List Int) (vs : List Vt) (kd k a b' c : Int) (wsv : Value) (w : World) (h : Both w Pr x ws ps vs) (hk : kd ≤ 2) :
    Calls Tryz.prog 11 #[.pointer (some ⟨x, 0, none⟩), opVal kd k a b' c wsv] w fun e w' => e = .returned (.bool true) ∧ Alike2 w' Pr x ws ∧ Chg (fun k => ¬ Pr k) w w' := by
  have hB1 : Below w.heap.size w (w.alloc (.cells #[I64 kd, I64 k, I64 a, I64 b', I64 c, wsv] 34)) := (Below.refl _ _).alloc (Nat.le_refl _) _
  have h1 := h.kept hB1
  have hc1 := Chg.of_below (fun k => ¬ Pr k) hB1
  by_cases e1 : kd = 1
  · subst e1
    go_enter Tryz.func11, Tryz.ntmps11
    go_wp2_with fail
    refine (blockLaw_at Pr x ws ps vs a _ h1).mono ?_
    rintro e w2 ⟨rfl, h2, hB2⟩
    go_wp2
    go_ret
    exact ⟨rfl, ⟨_, _, h2⟩, hc1.trans hB2⟩
  by_cases e2 : kd = 2
  · subst e2
    go_enter Tryz.func11, Tryz.ntmps11
    go_wp2_with fail
    refine (voteLaw_at Pr x ws ps vs 2 k a b' c wsv _ h1).mono ?_
    rintro e w2 ⟨rfl, h2, hB2⟩
    go_wp2
    go_ret
    exact ⟨rfl, ⟨_, _, h2⟩, hc1.trans hB2⟩
  · have q1 : (kd == 1) = false := by simpa using e1
    have q2 : (kd == 2) = false := by simpa using e2
    have q3 : (kd == 3) = false := by simp; omega
    have q4 : (kd == 4) = false := by simp; omega
    have q5 : (kd == 5) = false := by simp; omega
    have q6 : (kd == 6) = false := by simp; omega
    clear e1 e2
    go_enter Tryz.func11, Tryz.ntmps11
    go_wp2_with fail
    go_ret
    exact ⟨rfl, ⟨_, _, h1⟩, hc1⟩
end Go.Proofs.YtgebcnnenhgkcaaGreat
/- The statements' own look at two lists of guilty (for the seat without VotesB). -/
namespace Go.Proofs.YtgebcnnenhgkcaaGreat
open Go.RowKit

theorem sameVotesL_at (x : Vt) (w : World) :
    Calls Tryz.prog 14 #[x.val, x.val] w fun e w' => e = .returned (.bool true) ∧ Below w.heap.size w w' := by
  go_enter Tryz.func14, Tryz.ntmps14
  go_wp2
  go_ret
  exact ⟨rfl, ((Below.refl _ w).alloc (Nat.le_refl _) _).alloc (by simp) _⟩

/-- A list of guilt in memory. -/
def GuAt (w : World) (v : Value) (gs : List Gu) : Prop := (∃ p c, v = .slice p gs.length c) ∧ ∀ j g, gs[j]? = some g → ∃ q c, v = .slice (some ⟨q, 0, none⟩) gs.length c ∧ q < w.heap.size ∧ ∀ i u, (guCells g)[i]? = some u → w.cell? ⟨q, j * 8 + i, none⟩ = some u
theorem guRow_length (gs : List Gu) : (guRow gs).length = gs.length * 8 := by
  induction gs with
  | nil => rfl
  | cons g r ih => simp [guRow, guCells] at *; omega
theorem guRow_at {gs : List Gu} {j : Nat} {g : Gu} (h : gs[j]? = some g) {i : Nat} {u : Value} (hu : (guCells g)[i]? = some u) : (guRow gs)[j * 8 + i]? = some u := by
  induction gs generalizing j with
  | nil => simp at h
  | cons a r ih =>
    have e : guRow (a :: r) = guCells a ++ guRow r := by simp [guRow]
    have hi : i < 8 := by have := (List.getElem?_eq_some_iff.1 hu).1; simpa [guCells] using this
    rw [e]
    cases j with
    | zero =>
      simp at h; subst h
      rw [List.getElem?_append_left (by simp [guCells]; omega)]; simpa using hu
    | succ j =>
      rw [List.getElem?_append_right (by simp [guCells]; omega)]
      have := ih (j := j) (by simpa using h)
      simp only [guCells, List.length_cons, List.length_nil]
      rw [show (j + 1) * 8 + i - (0 + 1 + 1 + 1 + 1 + 1 + 1 + 1 + 1) = j * 8 + i by omega]
      exact this
theorem row_gu {w : World} {base : Nat} {v : Value} {gs : List Gu} (h : w.ownsRow base 84 8 v gs.length (guRow gs)) : GuAt w v gs := by
  have h' := h
  rcases h.2 with ⟨rfl, hn⟩ | ⟨g, cap, cur, rfl, _, hg, hle, hm, hs, ht⟩
  · refine ⟨⟨none, 0, by rw [hn]⟩, fun j g hj => ?_⟩
    have hl : gs = [] := List.length_eq_zero_iff.1 hn
    subst hl; simp at hj
  · refine ⟨⟨_, _, rfl⟩, fun j gu hj => ⟨g, cap, rfl, (Array.getElem?_eq_some_iff.1 hg).1, fun i u hu => ?_⟩⟩
    have hi : i < 8 := by have := (List.getElem?_eq_some_iff.1 hu).1; simpa [guCells] using this
    have hj' : j < gs.length := (List.getElem?_eq_some_iff.1 hj).1
    rw [(row_low h').cellAt _ (by omega)]
    exact guRow_at hj hu
theorem GuAt.below {w w' : World} {v : Value} {gs : List Gu} (h : GuAt w v gs) (hB : Below w.heap.size w w') : GuAt w' v gs :=
  ⟨h.1, fun j g hj => by
    obtain ⟨q, c, h1, h2, h3⟩ := h.2 j g hj
    exact ⟨q, c, h1, Nat.lt_of_lt_of_le h2 hB.size, fun i u hu => (hB.cell (p := ⟨q, j * 8 + i, none⟩) h2).trans (h3 i u hu)⟩⟩

set_option maxRecDepth 100000 in
set_option maxHeartbeats 4000000 in
theorem sameGuilt_at (v1 v2 : Value) (gs : List Gu) (w : World) (h1 : GuAt w v1 gs) (h2 : GuAt w v2 gs) (hl : gs.length ≤ 12) :
    Calls Tryz.prog 78 #[v1, v2] w fun e w' => e = .returned (.bool true) ∧ Below w.heap.size w w' := by
  obtain ⟨⟨p1, c1, rfl⟩, g1⟩ := h1
  obtain ⟨⟨p2, c2, rfl⟩, g2⟩ := h2
  go_enter Tryz.func78, Tryz.ntmps78
  go_wp2
  have G1 : Hid _ := g1
  have G2 : Hid _ := g2
  clear g1 g2
  go_loopw [5] (fun i wr => ∃ j : Nat, j ≤ gs.length ∧ i = .int .i64 j ∧ Below w.heap.size w wr) (fun i _ => gs.length - (intOf i).toNat)
  case atStart => exact ⟨0, by omega, rfl, Below.refl _ _⟩
  case round =>
    obtain ⟨j, hj, rfl, hB⟩ := hrel
    have hz := hB.size
    by_cases hlt : j < gs.length
    · have hlt' : (j : Int) < (gs.length : Int) := by omega
      obtain ⟨g, hg⟩ : ∃ g, gs[j]? = some g := ⟨_, List.getElem?_eq_getElem hlt⟩
      obtain ⟨q1, d1, e1, l1, a1⟩ := G1.out j g hg
      obtain ⟨q2, d2, e2, l2, a2⟩ := G2.out j g hg
      simp only [Value.slice.injEq, true_and] at e1 e2
      obtain ⟨rfl, rfl⟩ := e1
      obtain ⟨rfl, rfl⟩ := e2
      have k1 : ∀ (W : World), Below w.heap.size w W → (W.cell? ⟨q1, j * 8, none⟩ = some (I64 g.v) ∧ W.cell? ⟨q1, j * 8 + 1, none⟩ = some (I64 g.k)) ∧ (W.cell? ⟨q1, j * 8 + 2, none⟩ = some (I64 g.a.v) ∧ W.cell? ⟨q1, j * 8 + 3, none⟩ = some (I64 g.a.s) ∧ W.cell? ⟨q1, j * 8 + 4, none⟩ = some (I64 g.a.t)) ∧ (W.cell? ⟨q1, j * 8 + 5, none⟩ = some (I64 g.b.v) ∧ W.cell? ⟨q1, j * 8 + 6, none⟩ = some (I64 g.b.s) ∧ W.cell? ⟨q1, j * 8 + 7, none⟩ = some (I64 g.b.t)) := fun W hW =>
        ⟨⟨(hW.cell (p := ⟨q1, j * 8, none⟩) l1).trans (a1 0 _ rfl), (hW.cell (p := ⟨q1, j * 8 + 1, none⟩) l1).trans (a1 1 _ rfl)⟩, ⟨(hW.cell (p := ⟨q1, j * 8 + 2, none⟩) l1).trans (a1 2 _ rfl), (hW.cell (p := ⟨q1, j * 8 + 3, none⟩) l1).trans (a1 3 _ rfl), (hW.cell (p := ⟨q1, j * 8 + 4, none⟩) l1).trans (a1 4 _ rfl)⟩, (hW.cell (p := ⟨q1, j * 8 + 5, none⟩) l1).trans (a1 5 _ rfl), (hW.cell (p := ⟨q1, j * 8 + 6, none⟩) l1).trans (a1 6 _ rfl), (hW.cell (p := ⟨q1, j * 8 + 7, none⟩) l1).trans (a1 7 _ rfl)⟩
      have k2 : ∀ (W : World), Below w.heap.size w W → (W.cell? ⟨q2, j * 8, none⟩ = some (I64 g.v) ∧ W.cell? ⟨q2, j * 8 + 1, none⟩ = some (I64 g.k)) ∧ (W.cell? ⟨q2, j * 8 + 2, none⟩ = some (I64 g.a.v) ∧ W.cell? ⟨q2, j * 8 + 3, none⟩ = some (I64 g.a.s) ∧ W.cell? ⟨q2, j * 8 + 4, none⟩ = some (I64 g.a.t)) ∧ (W.cell? ⟨q2, j * 8 + 5, none⟩ = some (I64 g.b.v) ∧ W.cell? ⟨q2, j * 8 + 6, none⟩ = some (I64 g.b.s) ∧ W.cell? ⟨q2, j * 8 + 7, none⟩ = some (I64 g.b.t)) := fun W hW =>
        ⟨⟨(hW.cell (p := ⟨q2, j * 8, none⟩) l2).trans (a2 0 _ rfl), (hW.cell (p := ⟨q2, j * 8 + 1, none⟩) l2).trans (a2 1 _ rfl)⟩, ⟨(hW.cell (p := ⟨q2, j * 8 + 2, none⟩) l2).trans (a2 2 _ rfl), (hW.cell (p := ⟨q2, j * 8 + 3, none⟩) l2).trans (a2 3 _ rfl), (hW.cell (p := ⟨q2, j * 8 + 4, none⟩) l2).trans (a2 4 _ rfl)⟩, (hW.cell (p := ⟨q2, j * 8 + 5, none⟩) l2).trans (a2 5 _ rfl), (hW.cell (p := ⟨q2, j * 8 + 6, none⟩) l2).trans (a2 6 _ rfl), (hW.cell (p := ⟨q2, j * 8 + 7, none⟩) l2).trans (a2 7 _ rfl)⟩
      have KK1 : Hid _ := k1
      have KK2 : Hid _ := k2
      clear k1 k2 a1 a2 hg
      obtain ⟨_, ⟨s0, s1, s2⟩, _⟩ := KK1.out wr hB
      obtain ⟨_, ⟨t0, t1, t2⟩, _⟩ := KK2.out wr hB
      go_wp2_with fail
      refine wp_region_held_drew (S := fun w' => (w'.cell? ⟨q1, j * 8 + 2, none⟩ = some (I64 g.a.v) ∧ w'.cell? ⟨q1, j * 8 + 3, none⟩ = some (I64 g.a.s) ∧ w'.cell? ⟨q1, j * 8 + 4, none⟩ = some (I64 g.a.t)) ∧ (w'.cell? ⟨q2, j * 8 + 2, none⟩ = some (I64 g.a.v) ∧ w'.cell? ⟨q2, j * 8 + 3, none⟩ = some (I64 g.a.s) ∧ w'.cell? ⟨q2, j * 8 + 4, none⟩ = some (I64 g.a.t))) (by kernel_rfl) ⟨⟨s0, s1, s2⟩, t0, t1, t2⟩ (fun hHeld => ?_)
      refine takeH (i := 0) (v := ?vv1) rfl (by kernel_rfl) (by kernel_rfl) (by kernel_rfl) (fun _ _ _ h => h) (Or.inl ⟨by rfl, ?hy1⟩) (by assumption) ?rest1
      case hy1 => (intro w hSw; (try dsimp only at hSw); go_simp; try with_reducible rfl)
      try simp only [Act.put, List.setIfInBounds_toArray, List.set_cons_zero, List.set_cons_succ]
      refine takeH (i := 1) (v := ?vv2) rfl (by kernel_rfl) (by kernel_rfl) (by kernel_rfl) (fun _ _ _ h => h) (Or.inl ⟨by rfl, ?hy2⟩) (by assumption) ?rest2
      case hy2 => (intro w hSw; (try dsimp only at hSw); go_simp; try with_reducible rfl)
      try simp only [Act.put, List.setIfInBounds_toArray, List.set_cons_zero, List.set_cons_succ]
      refine takeH (i := 2) (v := ?vv3) rfl (by kernel_rfl) (by kernel_rfl) (by kernel_rfl) (fun _ _ _ h => h) (Or.inl ⟨by rfl, ?hy3⟩) (by assumption) ?rest3
      case hy3 => (intro w hSw; (try dsimp only at hSw); go_simp; try with_reducible rfl)
      try simp only [Act.put, List.setIfInBounds_toArray, List.set_cons_zero, List.set_cons_succ]
      refine takeH (i := 3) (v := ?vv4) rfl (by kernel_rfl) (by kernel_rfl) (by kernel_rfl) (fun _ _ _ h => h) (Or.inl ⟨by rfl, ?hy4⟩) (by assumption) ?rest4
      case hy4 => (intro w hSw; (try dsimp only at hSw); go_simp; try with_reducible rfl)
      try simp only [Act.put, List.setIfInBounds_toArray, List.set_cons_zero, List.set_cons_succ]
      refine takeH (i := 4) (v := ?vv5) rfl (by kernel_rfl) (by kernel_rfl) (by kernel_rfl) (fun _ _ _ h => h) (Or.inl ⟨by rfl, ?hy5⟩) (by assumption) ?rest5
      case hy5 => (intro w hSw; (try dsimp only at hSw); go_simp; try with_reducible rfl)
      try simp only [Act.put, List.setIfInBounds_toArray, List.set_cons_zero, List.set_cons_succ]
      refine takeH (i := 5) (v := ?vv6) rfl (by kernel_rfl) (by kernel_rfl) (by kernel_rfl) (fun _ _ _ h => h) (Or.inl ⟨by rfl, ?hy6⟩) (by assumption) ?rest6
      case hy6 => (intro w hSw; (try dsimp only at hSw); go_simp; try with_reducible rfl)
      try simp only [Act.put, List.setIfInBounds_toArray, List.set_cons_zero, List.set_cons_succ]
      refine takeH (i := 6) (v := ?vv7) rfl (by kernel_rfl) (by kernel_rfl) (by kernel_rfl) (fun _ _ _ h => h) (Or.inl ⟨by rfl, ?hy7⟩) (by assumption) ?rest7
      case hy7 => (intro w hSw; (try dsimp only at hSw); go_simp; try with_reducible rfl)
      try simp only [Act.put, List.setIfInBounds_toArray, List.set_cons_zero, List.set_cons_succ]
      refine takeH (i := 7) (v := ?vv8) rfl (by kernel_rfl) (by kernel_rfl) (by kernel_rfl) (fun _ _ _ h => h) (Or.inl ⟨by rfl, ?hy8⟩) (by assumption) ?rest8
      case hy8 => (intro w hSw; (try dsimp only at hSw); go_simp; try with_reducible rfl)
      try simp only [Act.put, List.setIfInBounds_toArray, List.set_cons_zero, List.set_cons_succ]
      refine takeH (i := 8) (v := ?vv9) rfl (by kernel_rfl) (by kernel_rfl) (by kernel_rfl) (fun _ _ _ h => h) (Or.inl ⟨by rfl, ?hy9⟩) (by assumption) ?rest9
      case hy9 => (intro w hSw; (try dsimp only at hSw); go_simp; try with_reducible rfl)
      try simp only [Act.put, List.setIfInBounds_toArray, List.set_cons_zero, List.set_cons_succ]
      refine takeH (i := 9) (v := ?vv10) rfl (by kernel_rfl) (by kernel_rfl) (by kernel_rfl) (fun _ _ _ h => h) (Or.inl ⟨by rfl, ?hy10⟩) (by assumption) ?rest10
      case hy10 => (intro w hSw; (try dsimp only at hSw); go_simp; try with_reducible rfl)
      try simp only [Act.put, List.setIfInBounds_toArray, List.set_cons_zero, List.set_cons_succ]
      refine doneH (i := 10) rfl (by kernel_rfl) (by rfl) (fun K hK => ?_)
      have HK : Hid _ := hK
      clear hK
      go_simp
      refine (sameVotesL_at g.a _).mono ?_
      rintro e W1 ⟨rfl, hBW1⟩
      have hBW1 : Below wr.heap.size wr W1 := (Below.refl wr.heap.size wr).drew.trans hBW1
      clear hHeld
      have hC1 : Below w.heap.size w W1 := hB.trans (hBW1.mono hz)
      clear s0 s1 s2 t0 t1 t2
      obtain ⟨_, ⟨s0, s1, s2⟩, ⟨s3, s4, s5⟩⟩ := KK1.out W1 hC1
      obtain ⟨_, ⟨t0, t1, t2⟩, ⟨t3, t4, t5⟩⟩ := KK2.out W1 hC1
      refine HK.out _ _ ⟨⟨s0, s1, s2⟩, t0, t1, t2⟩ (fun hHeld => ?_)
      clear HK K
      try simp only [Act.put, List.setIfInBounds_toArray, List.set_cons_zero, List.set_cons_succ]
      refine takeH (i := 11) (v := ?vv11) rfl (by kernel_rfl) (by kernel_rfl) (by kernel_rfl) (fun _ _ _ h => h) (Or.inl ⟨by rfl, ?hy11⟩) (by assumption) ?rest11
      case hy11 => (intro w hSw; (try dsimp only at hSw); go_simp; try with_reducible rfl)
      try simp only [Act.put, List.setIfInBounds_toArray, List.set_cons_zero, List.set_cons_succ]
      clear hHeld s0 s1 s2 t0 t1 t2
      refine wpAnyH_done (by kernel_rfl) ?_ _
      go_wp2_with fail
      refine wp_region_held_drew (S := fun w' => (w'.cell? ⟨q1, j * 8 + 5, none⟩ = some (I64 g.b.v) ∧ w'.cell? ⟨q1, j * 8 + 6, none⟩ = some (I64 g.b.s) ∧ w'.cell? ⟨q1, j * 8 + 7, none⟩ = some (I64 g.b.t)) ∧ (w'.cell? ⟨q2, j * 8 + 5, none⟩ = some (I64 g.b.v) ∧ w'.cell? ⟨q2, j * 8 + 6, none⟩ = some (I64 g.b.s) ∧ w'.cell? ⟨q2, j * 8 + 7, none⟩ = some (I64 g.b.t))) (by kernel_rfl) ⟨⟨s3, s4, s5⟩, t3, t4, t5⟩ (fun hHeld => ?_)
      refine takeH (i := 0) (v := ?vv12) rfl (by kernel_rfl) (by kernel_rfl) (by kernel_rfl) (fun _ _ _ h => h) (Or.inl ⟨by rfl, ?hy12⟩) (by assumption) ?rest12
      case hy12 => (intro w hSw; (try dsimp only at hSw); go_simp; try with_reducible rfl)
      try simp only [Act.put, List.setIfInBounds_toArray, List.set_cons_zero, List.set_cons_succ]
      refine takeH (i := 1) (v := ?vv13) rfl (by kernel_rfl) (by kernel_rfl) (by kernel_rfl) (fun _ _ _ h => h) (Or.inl ⟨by rfl, ?hy13⟩) (by assumption) ?rest13
      case hy13 => (intro w hSw; (try dsimp only at hSw); go_simp; try with_reducible rfl)
      try simp only [Act.put, List.setIfInBounds_toArray, List.set_cons_zero, List.set_cons_succ]
      refine takeH (i := 2) (v := ?vv14) rfl (by kernel_rfl) (by kernel_rfl) (by kernel_rfl) (fun _ _ _ h => h) (Or.inl ⟨by rfl, ?hy14⟩) (by assumption) ?rest14
      case hy14 => (intro w hSw; (try dsimp only at hSw); go_simp; try with_reducible rfl)
      try simp only [Act.put, List.setIfInBounds_toArray, List.set_cons_zero, List.set_cons_succ]
      refine takeH (i := 3) (v := ?vv15) rfl (by kernel_rfl) (by kernel_rfl) (by kernel_rfl) (fun _ _ _ h => h) (Or.inl ⟨by rfl, ?hy15⟩) (by assumption) ?rest15
      case hy15 => (intro w hSw; (try dsimp only at hSw); go_simp; try with_reducible rfl)
      try simp only [Act.put, List.setIfInBounds_toArray, List.set_cons_zero, List.set_cons_succ]
      refine takeH (i := 4) (v := ?vv16) rfl (by kernel_rfl) (by kernel_rfl) (by kernel_rfl) (fun _ _ _ h => h) (Or.inl ⟨by rfl, ?hy16⟩) (by assumption) ?rest16
      case hy16 => (intro w hSw; (try dsimp only at hSw); go_simp; try with_reducible rfl)
      try simp only [Act.put, List.setIfInBounds_toArray, List.set_cons_zero, List.set_cons_succ]
      refine takeH (i := 5) (v := ?vv17) rfl (by kernel_rfl) (by kernel_rfl) (by kernel_rfl) (fun _ _ _ h => h) (Or.inl ⟨by rfl, ?hy17⟩) (by assumption) ?rest17
      case hy17 => (intro w hSw; (try dsimp only at hSw); go_simp; try with_reducible rfl)
      try simp only [Act.put, List.setIfInBounds_toArray, List.set_cons_zero, List.set_cons_succ]
      refine takeH (i := 6) (v := ?vv18) rfl (by kernel_rfl) (by kernel_rfl) (by kernel_rfl) (fun _ _ _ h => h) (Or.inl ⟨by rfl, ?hy18⟩) (by assumption) ?rest18
      case hy18 => (intro w hSw; (try dsimp only at hSw); go_simp; try with_reducible rfl)
      try simp only [Act.put, List.setIfInBounds_toArray, List.set_cons_zero, List.set_cons_succ]
      refine takeH (i := 7) (v := ?vv19) rfl (by kernel_rfl) (by kernel_rfl) (by kernel_rfl) (fun _ _ _ h => h) (Or.inl ⟨by rfl, ?hy19⟩) (by assumption) ?rest19
      case hy19 => (intro w hSw; (try dsimp only at hSw); go_simp; try with_reducible rfl)
      try simp only [Act.put, List.setIfInBounds_toArray, List.set_cons_zero, List.set_cons_succ]
      refine takeH (i := 8) (v := ?vv20) rfl (by kernel_rfl) (by kernel_rfl) (by kernel_rfl) (fun _ _ _ h => h) (Or.inl ⟨by rfl, ?hy20⟩) (by assumption) ?rest20
      case hy20 => (intro w hSw; (try dsimp only at hSw); go_simp; try with_reducible rfl)
      try simp only [Act.put, List.setIfInBounds_toArray, List.set_cons_zero, List.set_cons_succ]
      refine takeH (i := 9) (v := ?vv21) rfl (by kernel_rfl) (by kernel_rfl) (by kernel_rfl) (fun _ _ _ h => h) (Or.inl ⟨by rfl, ?hy21⟩) (by assumption) ?rest21
      case hy21 => (intro w hSw; (try dsimp only at hSw); go_simp; try with_reducible rfl)
      try simp only [Act.put, List.setIfInBounds_toArray, List.set_cons_zero, List.set_cons_succ]
      refine doneH (i := 10) rfl (by kernel_rfl) (by rfl) (fun K hK => ?_)
      have HK : Hid _ := hK
      clear hK
      go_simp
      refine (sameVotesL_at g.b _).mono ?_
      rintro e W2 ⟨rfl, hBW2⟩
      have hBW2 : Below W1.heap.size W1 W2 := (Below.refl W1.heap.size W1).drew.trans hBW2
      clear hHeld
      have hC2 : Below w.heap.size w W2 := hC1.trans (hBW2.mono hC1.size)
      clear s3 s4 s5 t3 t4 t5
      obtain ⟨⟨u0, u1⟩, _, ⟨s3, s4, s5⟩⟩ := KK1.out W2 hC2
      obtain ⟨⟨v0, v1⟩, _, ⟨t3, t4, t5⟩⟩ := KK2.out W2 hC2
      refine HK.out _ _ ⟨⟨s3, s4, s5⟩, t3, t4, t5⟩ (fun hHeld => ?_)
      clear HK K
      try simp only [Act.put, List.setIfInBounds_toArray, List.set_cons_zero, List.set_cons_succ]
      refine takeH (i := 11) (v := ?vv22) rfl (by kernel_rfl) (by kernel_rfl) (by kernel_rfl) (fun _ _ _ h => h) (Or.inl ⟨by rfl, ?hy22⟩) (by assumption) ?rest22
      case hy22 => (intro w hSw; (try dsimp only at hSw); go_simp; try with_reducible rfl)
      try simp only [Act.put, List.setIfInBounds_toArray, List.set_cons_zero, List.set_cons_succ]
      clear hHeld s3 s4 s5 t3 t4 t5
      refine wpAnyH_done (by kernel_rfl) ?_ _
      have n1 : (g.v != g.v) = false := by simp
      have n2 : (g.k != g.k) = false := by simp
      go_wp2_with fail
      go_quiet (fail)
      go_wp2
      go_roundw
      case rel => exact ⟨j + 1, by omega, by go_num, below_drewN hC2 _⟩
      case measure => simp [intOf]; omega
    · go_wp2
      go_ret
      exact ⟨rfl, hB⟩

end Go.Proofs.YtgebcnnenhgkcaaGreat
