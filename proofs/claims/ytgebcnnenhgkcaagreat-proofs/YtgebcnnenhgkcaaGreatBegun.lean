/- A Court of the program beside the document's: how both begin. -/
import Derived.Test.YtgebcnnenhgkcaaGreatNewA
import Derived.Test.YtgebcnnenhgkcaaGreatRefV
import Derived.Test.YtgebcnnenhgkcaaGreatPureB
namespace Go.Proofs.YtgebcnnenhgkcaaGreat
open Go.RowKit

/-- Both Courts in memory, each in blocks of its own, none of them in Pr. -/
structure BothAt (w : World) (Pr : Nat → Prop) (x b rb : Nat) (S R : Nat → Prop) (ws ps : List Int) (vs : List Vt) : Prop where
  box : w.heap[x]? = some (.cells #[.pointer (some ⟨b, 0, none⟩), .pointer (some ⟨rb, 0, none⟩)] 38 (0, 0))
  court : ∃ wv pv vv, CourtAt w b S 0 ws ps vs wv pv vv
  doc : ∃ wv pv vv, RefAt w rb R ws ps vs wv pv vv
  dis : ∀ k, S k → ¬ R k
  xS : ¬ S x
  xR : ¬ R x
  lowx : ¬ Pr x
  lowS : ∀ k, S k → ¬ Pr k
  lowR : ∀ k, R k → ¬ Pr k
  le : ∀ k, Pr k → k < w.heap.size
  okw : okW ws = true
  T : Tree ps
  len : vs.length ≤ 300
  okv : OkV ws.length ps vs

def Both (w : World) (Pr : Nat → Prop) (x : Nat) (ws ps : List Int) (vs : List Vt) : Prop := ∃ b rb S R, BothAt w Pr x b rb S R ws ps vs

theorem tree_root : Tree [0] := ⟨by simp, by simp, by simp, fun i hi hl => by simp at hl; omega⟩

theorem okW_len {ws : List Int} (h : okW ws = true) : 0 < ws.length ∧ ws.length ≤ 12 := by simp [okW] at h; omega

theorem num_at (k : Int) (w : World) : Calls Tryz.prog 42 #[.int .i64 k] w fun e w' => e = .returned (.int .i64 k) ∧ w' = w := by
  go_enter Tryz.func42, Tryz.ntmps42
  go_wp2
  go_ret
  exact ⟨rfl, rfl⟩

set_option maxRecDepth 100000 in
set_option maxHeartbeats 1000000 in
theorem begun_no (p : Option Addr) (c : Nat) (ws : List Int) (w : World) (hx : IntsAt w p ws) (hp : p = none ∨ ∃ g o, p = some ⟨g, o, none⟩) (hn : p = none → c = 0 ∧ ws = []) (hb : (ws.length + 3) * 8 ≤ 140737488355328) (hok : okW ws = false) :
    Calls Tryz.prog 10 #[.slice p ws.length c] w fun e w' => e = .returned (.tuple #[.pointer none, .bool true]) ∧ Below w.heap.size w w' := by
  have hlm : Hid (ws.length + 3 ≤ maxLen) := by show _ ≤ _; unfold maxLen; omega
  have hlm' : Hid (ws.length ≤ maxLen) := by show _ ≤ _; have := hlm.out; omega
  go_enter Tryz.func10, Tryz.ntmps10
  go_wp2_with fail
  refine (lent_at p c ws _ hx hp hn hb).mono ?_
  rintro e w1 ⟨g1, cap, rfl, hown, hg1, hB1⟩
  clear hb
  obtain ⟨cur, hcur⟩ := row_type hown (k := g1) rfl
  have hcap : ws.length + 3 ≤ cap ∧ cur.size = cap := by
    rcases hown.2 with ⟨h', _⟩ | ⟨_, _, cur', h', _, hg', hle, _, hs, _⟩
    · simp at h'
    · simp only [Value.slice.injEq, Option.some.injEq, Addr.mk.injEq] at h'
      obtain ⟨⟨rfl, _⟩, _, rfl⟩ := h'
      rw [hcur] at hg'
      simp at hg'
      subst hg'
      exact ⟨hle, by omega⟩
  obtain ⟨hcap1, hcap2⟩ := hcap
  have hcells : ∀ j, j < (ws ++ [77, 77, 77]).length → w1.cell? ⟨g1, j, none⟩ = some (I64 ((ws ++ [77, 77, 77])[j]?.getD 0)) := fun j hj => by
    rw [hown.cellAt j (by simpa using hj)]
    simp only [List.getElem?_map]
    rw [List.getElem?_eq_getElem hj]; rfl
  have hIl : IntsAt w1 (some ⟨g1, 0, none⟩) ws := IntsAt.take (ys := [77, 77, 77]) (.inr ⟨g1, 0, rfl, fun j hj => by simpa using hcells j hj⟩)
  have hIw : IntsAt w1 p ws := hx.below hB1
  have n0 : (ws.length : Int) ≤ (cap : Int) := by omega
  have n2 : (0 : Int) ≤ (ws.length : Int) := by omega
  have HC : Hid (w1.heap[g1]? = some (.cells cur 3 (0, 0))) := hcur
  have HCE : Hid (∀ j, j < (ws ++ [77, 77, 77]).length → w1.cell? ⟨g1, j, none⟩ = some (I64 ((ws ++ [77, 77, 77])[j]?.getD 0))) := hcells
  have HS2 : Hid (cur.size = cap) := hcap2
  clear hcur hcells hcap2 hx
  go_wp2_with fail
  refine (new_no (some ⟨g1, 0, none⟩) cap ws _ hIl hlm'.out hok).mono ?_
  rintro e w2 ⟨rfl, rfl⟩
  go_wp2_with fail
  refine (refNew_no p c ws _ hIw hlm'.out hok).mono ?_
  rintro e w3 ⟨rfl, rfl⟩
  go_wp2_with fail
  refine (kept_at g1 cap c p ws _ HCE.out hIw hlm.out hcap1).mono ?_
  rintro e w4 ⟨rfl, n, rfl⟩
  go_wp2_with fail
  refine (over_at g1 cap (ws.length + 3) cur _ ?_ ?_ hlm.out).mono ?_
  · exact HC.out
  · rw [HS2.out]; exact hcap1
  rintro e w5 ⟨rfl, hc5, cur5, hcur5⟩
  have hB5 : Below w.heap.size w w5 := (below_drewN hB1 n).trans (hc5.below (by have := hB1.size; simpa using this) (fun k hk e => by omega))
  clear hcur5 HC HCE HS2
  go_wp2_with (go_at_call 42; refine (num_at _ _).mono ?_; rintro e w6 ⟨rfl, rfl⟩)
  go_ret2
  exact ⟨rfl, hB5⟩
set_option maxRecDepth 100000 in
set_option maxHeartbeats 1000000 in
theorem begun_ok (p : Option Addr) (c : Nat) (ws : List Int) (w : World) (hx : IntsAt w p ws) (hp : p = none ∨ ∃ g o, p = some ⟨g, o, none⟩) (hn : p = none → c = 0 ∧ ws = []) (hb : (ws.length + 3) * 8 ≤ 140737488355328) (hok : okW ws = true) :
    Calls Tryz.prog 10 #[.slice p ws.length c] w fun e w' => ∃ x, e = .returned (.tuple #[.pointer (some ⟨x, 0, none⟩), .bool true]) ∧ Both w' (fun k => k < w.heap.size) x ws [0] [] ∧ Below w.heap.size w w' := by
  have hlm : Hid (ws.length + 3 ≤ maxLen) := by show _ ≤ _; unfold maxLen; omega
  have hlm' : Hid (ws.length ≤ maxLen) := by show _ ≤ _; have := hlm.out; omega
  go_enter Tryz.func10, Tryz.ntmps10
  go_wp2_with fail
  refine (lent_at p c ws _ hx hp hn hb).mono ?_
  rintro e w1 ⟨g1, cap, rfl, hown, hg1, hB1⟩
  clear hb
  obtain ⟨cur, hcur⟩ := row_type hown (k := g1) rfl
  have hcap : ws.length + 3 ≤ cap ∧ cur.size = cap := by
    rcases hown.2 with ⟨h', _⟩ | ⟨_, _, cur', h', _, hg', hle, _, hs, _⟩
    · simp at h'
    · simp only [Value.slice.injEq, Option.some.injEq, Addr.mk.injEq] at h'
      obtain ⟨⟨rfl, _⟩, _, rfl⟩ := h'
      rw [hcur] at hg'
      simp at hg'
      subst hg'
      exact ⟨hle, by omega⟩
  obtain ⟨hcap1, hcap2⟩ := hcap
  have hcells : ∀ j, j < (ws ++ [77, 77, 77]).length → w1.cell? ⟨g1, j, none⟩ = some (I64 ((ws ++ [77, 77, 77])[j]?.getD 0)) := fun j hj => by
    rw [hown.cellAt j (by simpa using hj)]
    simp only [List.getElem?_map]
    rw [List.getElem?_eq_getElem hj]; rfl
  have hIl : IntsAt w1 (some ⟨g1, 0, none⟩) ws := IntsAt.take (ys := [77, 77, 77]) (.inr ⟨g1, 0, rfl, fun j hj => by simpa using hcells j hj⟩)
  have hIw : IntsAt w1 p ws := hx.below hB1
  have n0 : (ws.length : Int) ≤ (cap : Int) := by omega
  have n2 : (0 : Int) ≤ (ws.length : Int) := by omega
  have HC : Hid (w1.heap[g1]? = some (.cells cur 3 (0, 0))) := hcur
  have HCE : Hid (∀ j, j < (ws ++ [77, 77, 77]).length → w1.cell? ⟨g1, j, none⟩ = some (I64 ((ws ++ [77, 77, 77])[j]?.getD 0))) := hcells
  have HS2 : Hid (cur.size = cap) := hcap2
  clear hcur hcells hcap2 hx
  obtain ⟨hl0, hl12⟩ := okW_len hok
  have hg1l : g1 < w1.heap.size := (hown.lt g1 rfl).2
  go_wp2_with fail
  refine (new_ok g1 0 cap ws _ (fun j hj => ?_) hok).mono ?_
  · have := HCE.out j (by simp; omega)
    rw [List.getElem?_append_left hj] at this
    simpa using this
  rintro e w2 ⟨b, S, wv, pv, rfl, hC2, hB2, hS2⟩
  rcases hIw with h' | ⟨g, o, rfl, hcw⟩
  · subst h'; simp at hl0
  go_wp2_with fail
  refine (refNew_ok g o c ws _ (fun j hj => ?_) hok).mono ?_
  · exact (hB2.cell (p := ⟨g, o + j, none⟩) (World.block_lt_of_cell? w1 _ (hcw j hj))).trans (hcw j hj)
  rintro e w3 ⟨rb, R, rwv, rpv, rfl, hR3, hB3, hRl⟩
  have hz2 := hB2.size
  have hz3 := hB3.size
  have hB13 : Below w1.heap.size w1 w3 := hB2.trans (hB3.mono hz2)
  have hC3 := hC2.kept (Chg.of_below (fun _ => False) hB3) (fun _ _ hf => hf)
  go_wp2_with fail
  refine (kept_at g1 cap c (some ⟨g, o, none⟩) ws _ (fun j hj => ?_) (.inr ⟨g, o, rfl, fun j hj => ?_⟩) hlm.out hcap1).mono ?_
  · exact (hB13.cell (p := ⟨g1, j, none⟩) hg1l).trans (HCE.out j hj)
  · exact (hB13.cell (p := ⟨g, o + j, none⟩) (World.block_lt_of_cell? w1 _ (hcw j hj))).trans (hcw j hj)
  rintro e w4 ⟨rfl, n, rfl⟩
  go_wp2_with fail
  refine (over_at g1 cap (ws.length + 3) cur _ ?_ ?_ hlm.out).mono ?_
  · exact (hB13.block g1 hg1l).trans HC.out
  · rw [HS2.out]; exact hcap1
  rintro e w5 ⟨rfl, hc5, cur5, hcur5⟩
  have hz1 := hB1.size
  have hB5 : Below w.heap.size w w5 := (below_drewN (hB1.trans (hB13.mono hz1)) n).trans (hc5.below (by show _ ≤ w3.heap.size; omega) (fun k hk e => by omega))
  have hcd : Chg (fun k => k = g1) w3 w5 := ⟨hc5.os, hc5.tape, hc5.output, hc5.size, hc5.block⟩
  have hC5 := hC3.kept hcd (fun k hk e => by have := hS2 k hk; omega)
  have hR5 := hR3.kept hcd (fun k hk e => by have := hRl k hk; omega)
  have hz5 := hcd.size
  clear hcur5 HC HCE HS2 hcw
  go_wp2_with (go_at_call 42; refine (num_at _ _).mono ?_; rintro e w6 ⟨rfl, rfl⟩)
  go_ret2
  have hCn := hC5.kept (Chg.alloc (Chg.refl (fun _ => False) _) (.cells #[.pointer (some ⟨b, 0, none⟩), .pointer (some ⟨rb, 0, none⟩)] 38)) (fun _ _ hf => hf)
  have hRn := hR5.kept (Chg.alloc (Chg.refl (fun _ => False) _) (.cells #[.pointer (some ⟨b, 0, none⟩), .pointer (some ⟨rb, 0, none⟩)] 38)) (fun _ _ hf => hf)
  refine ⟨w6.heap.size, rfl, ⟨b, rb, S, R, heap_alloc_new w6 _, ⟨_, _, _, hCn⟩, ⟨_, _, _, hRn⟩, fun k hk hk' => ?_, fun hk => ?_, fun hk => ?_, ?_, fun k hk => ?_, fun k hk => ?_, fun k hk => ?_, hok, tree_root, by simp, ⟨by simp, by simp, by simp, List.nodup_nil⟩⟩, hB5.alloc hB5.size _⟩
  · have h1 := hC2.lt k hk
    have h2 := hRl k hk'
    omega
  · have := hC5.lt _ hk; omega
  · have := hR5.lt _ hk; omega
  · omega
  · have := hS2 k hk; omega
  · have := hRl k hk; omega
  · simp; omega
end Go.Proofs.YtgebcnnenhgkcaaGreat
