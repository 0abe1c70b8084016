/- New: a Court whose tree has the root alone, of weights that are not kept. -/
import Derived.Lib.SliceRun
import Derived.BigRegion
import Derived.Deep.RegionLaw
import Derived.Deep.DeepCutAuto
import Derived.Deep.QuietTactic
import Derived.BigQuiet
import Derived.WalkSpells
import Derived.Test.YtgebcnnenhgkcaaGreatB13
import Derived.Test.YtgebcnnenhgkcaaGreatB04
import Derived.Test.YtgebcnnenhgkcaaGreatB02
import Derived.Test.YtgebcnnenhgkcaaGreatB03
namespace Go.Proofs.YtgebcnnenhgkcaaGreat
open Go.RowKit

set_option maxRecDepth 100000 in
set_option maxHeartbeats 1000000 in
theorem cloneInts_at (g o c : Nat) (xs : List Int) (w : World) (hx : ∀ j, j < xs.length → w.cell? ⟨g, o + j, none⟩ = some (I64 (xs[j]?.getD 0))) (h0 : 0 < xs.length) (hl : xs.length ≤ 12) :
    Calls Tryz.prog 69 #[.slice (some ⟨g, o, none⟩) xs.length c] w fun e w' => ∃ g1 cap, e = .returned (.slice (some ⟨g1, 0, none⟩) xs.length cap) ∧
      w'.ownsRow 0 3 1 (.slice (some ⟨g1, 0, none⟩) xs.length cap) xs.length (xs.map I64) ∧ w.heap.size ≤ g1 ∧ Below w.heap.size w w' := by
  obtain ⟨i0, hi, hz0, hz1, hz2⟩ := info_parts info_int
  have h63 : Hid (0 + xs.length ≤ maxLen) := by show _ ≤ _; unfold maxLen; omega
  have hgl : g < w.heap.size := World.block_lt_of_cell? w _ (hx 0 h0)
  have hnews : ∀ j u, (xs.map I64)[j]? = some u → (w.alloc (.cells #[] 3)).cell? ((⟨g, o, none⟩ : Addr).add j) = some u := fun j u hu => by
    rw [add_none]
    obtain ⟨x, hxj, rfl⟩ := by simpa using hu
    have hlt : j < xs.length := (List.getElem?_eq_some_iff.1 hxj).1
    refine (Chg.alloc (Chg.refl (fun _ => False) w) _).cell ?_ (fun hf => hf)
    rw [hx j hlt, hxj]; rfl
  have hown0 : (w.alloc (.cells #[] 3)).ownsRow 0 3 1 (.slice (some ⟨w.heap.size, 0, none⟩) 0 0) 0 [] := World.ownsRow_lit w #[] 0 (Nat.zero_le _) (Nat.zero_le _) (by simp)
  clear hx
  have q22 : ∀ (w : World) (a : Option Addr) (n c : Nat), (binOp .eql 22 (.slice a n c) (.slice none 0 0)).run Tryz.prog w = .ok (.bool a.isNone) w := fun w a n c => Lib.run_eql_slice_nil w _ _ a n c 0 0 Tryz.underlying22
  go_enter Tryz.func69, Tryz.ntmps69
  go_wp2_with (at_builtin; refine wpList_append_lies _ (by rfl) _ _ _ (by rfl) 0 3 i0 (I64 0) 1 8 Tryz.underlying22 hi hz0 hz1 hz2 rfl (by omega) (.slice (some ⟨w.heap.size, 0, none⟩) 0 0) 0 [] (by rfl) hown0 ⟨g, o, none⟩ xs.length c (xs.map I64) (by rfl) (by simp) hnews (by simp [Value.oneCell']) h0 h63.out (by omega) (Nat.zero_le _) (w.heap.size + 1) (by simp) ?_; intro g1 cap1 w7 hown7 hgrow7 hat7 hlt7)
  go_ret
  simp only [Nat.zero_add, List.nil_append] at hown7
  refine ⟨g1, cap1, by simp, hown7, ?_, ?_⟩
  · rcases hat7 with h | h
    · simp [Value.ownBlock] at h; omega
    · omega
  · exact ((Below.refl _ w).alloc (Nat.le_refl _) _).grown hgrow7 (by simp) (fun k e => by simp [Value.ownBlock] at e; omega)

theorem planted_at (w : World) :
    Calls Tryz.prog 70 #[] w fun e w' => e = .returned (.agg #[.slice (some ⟨w.heap.size + 1, 0, none⟩) 1 1]) ∧
      w'.ownsRow 0 3 1 (.slice (some ⟨w.heap.size + 1, 0, none⟩) 1 1) 1 [I64 0] ∧ Below w.heap.size w w' := by
  go_enter Tryz.func70, Tryz.ntmps70
  go_wp2
  refine bodyPost_ret (v := .agg #[.slice (some ⟨w.heap.size + 1, 0, none⟩) 1 1]) (by simp [results, Tryz.results70, go_sem]) rfl ⟨rfl, ?_, ?_⟩
  · have := World.ownsRow_lit (base := 0) (e := 3) (size := 1) (w.alloc (.cells #[.slice (some ⟨w.heap.size + 1, 0, none⟩) 1 1] 98)) #[I64 0] 1 (Nat.zero_le _) (by unfold maxLen; omega) (by simp)
    simpa using this
  · exact ((Below.refl _ w).alloc (Nat.le_refl _) _).alloc (by simp) _

/-- A Court as New makes it. -/
theorem new_ok (g o c : Nat) (ws : List Int) (w : World) (hx : ∀ j, j < ws.length → w.cell? ⟨g, o + j, none⟩ = some (I64 (ws[j]?.getD 0))) (hok : okW ws = true) :
    Calls Tryz.prog 38 #[.slice (some ⟨g, o, none⟩) ws.length c] w fun e w' => ∃ b S wv pv, e = .returned (.tuple #[.pointer (some ⟨b, 0, none⟩), .int .i64 0]) ∧
      CourtAt w' b S 0 ws [0] [] wv pv (.slice none 0 0) ∧ Below w.heap.size w w' ∧ (∀ k, S k → w.heap.size ≤ k) := by
  have hlen : 0 < ws.length ∧ ws.length ≤ 12 := by simp [okW] at hok; omega
  have hI : IntsAt w (some ⟨g, o, none⟩) ws := .inr ⟨g, o, rfl, hx⟩
  go_enter Tryz.func38, Tryz.ntmps38
  go_wp2_with fail
  refine (right_at (some ⟨g, o, none⟩) c ws _ hI (by unfold maxLen; omega)).mono ?_
  rintro e w1 ⟨rfl, rfl⟩
  rw [hok]
  go_wp2_with fail
  refine (cloneInts_at g o c ws _ hx hlen.1 hlen.2).mono ?_
  rintro e w2 ⟨g1, cap, rfl, hown, hg1, hB2⟩
  go_wp2_with fail
  refine (planted_at _).mono ?_
  rintro e w3 ⟨rfl, hown3, hB3⟩
  go_wp2_with fail
  go_ret2
  have hz2 : w1.heap.size ≤ w2.heap.size := hB2.size
  have hz3 : w2.heap.size ≤ w3.heap.size := hB3.size
  have hg2 : g1 < w2.heap.size := (hown.lt g1 rfl).2
  have hp3 : w2.heap.size + 1 < w3.heap.size := (hown3.lt _ rfl).2
  have hown' : w3.ownsRow 0 3 1 (.slice (some ⟨g1, 0, none⟩) ws.length cap) ws.length (ws.map I64) := Chg.row (Chg.of_below (fun _ => False) hB3) hown (fun _ _ hf => hf)
  refine ⟨w3.heap.size, fun k => k = g1 ∨ k = w2.heap.size + 1 ∨ k = w3.heap.size, _, _, rfl, ⟨heap_alloc_new w3 _, hown'.alloc _, by simpa using hown3.alloc _, World.ownsRow_nil _ _ _ _, .inr (.inr rfl), fun k hk => ?_, fun k hk => ?_, fun k hk => ?_, fun k hk => ?_, fun k ob hk ho => ?_, fun k hk hk' => ?_⟩, ?_, fun k hk => ?_⟩
  · simp [Value.ownBlock] at hk; exact .inl hk.symm
  · simp [Value.ownBlock] at hk; exact .inr (.inl hk.symm)
  · simp [Value.ownBlock] at hk
  · simp; omega
  · rcases hk with rfl | rfl | rfl
    · obtain ⟨cur, hc⟩ := row_type (hown'.alloc _) (k := k) rfl
      rw [hc] at ho; simp at ho; subst ho; rfl
    · obtain ⟨cur, hc⟩ := row_type (hown3.alloc _) (k := w2.heap.size + 1) rfl
      rw [hc] at ho; simp at ho; subst ho; rfl
    · rw [heap_alloc_new] at ho; simp at ho; subst ho; rfl
  · simp [Value.ownBlock] at hk hk'; omega
  · exact (hB2.trans (hB3.mono hz2)).alloc (by omega) _
  · omega

/-- New, of weights that are none. -/
theorem new_no (p : Option Addr) (c : Nat) (ws : List Int) (w : World) (hI : IntsAt w p ws) (hl : ws.length ≤ maxLen) (hok : okW ws = false) :
    Calls Tryz.prog 38 #[.slice p ws.length c] w fun e w' => e = .returned (.tuple #[.pointer none, .int .i64 1]) ∧ w' = w := by
  go_enter Tryz.func38, Tryz.ntmps38
  go_wp2_with fail
  refine (right_at p c ws _ hI hl).mono ?_
  rintro e w1 ⟨rfl, rfl⟩
  rw [hok]
  go_wp2
  go_ret2
  exact ⟨rfl, rfl⟩

theorem refNew_no (p : Option Addr) (c : Nat) (ws : List Int) (w : World) (hI : IntsAt w p ws) (hl : ws.length ≤ maxLen) (hok : okW ws = false) :
    Calls Tryz.prog 39 #[.slice p ws.length c] w fun e w' => e = .returned (.tuple #[.pointer none, .int .i64 1]) ∧ w' = w := by
  go_enter Tryz.func39, Tryz.ntmps39
  go_wp2_with fail
  refine (refWeights_at p c ws _ hI hl).mono ?_
  rintro e w1 ⟨rfl, rfl⟩
  rw [hok]
  go_wp2
  go_ret2
  exact ⟨rfl, rfl⟩

set_option maxRecDepth 100000 in
set_option maxHeartbeats 1000000 in
/-- The document's Court as its New makes it. -/
theorem refNew_ok (g o c : Nat) (ws : List Int) (w : World) (hx : ∀ j, j < ws.length → w.cell? ⟨g, o + j, none⟩ = some (I64 (ws[j]?.getD 0))) (hok : okW ws = true) :
    Calls Tryz.prog 39 #[.slice (some ⟨g, o, none⟩) ws.length c] w fun e w' => ∃ b S wv pv, e = .returned (.tuple #[.pointer (some ⟨b, 0, none⟩), .int .i64 0]) ∧
      RefAt w' b S ws [0] [] wv pv (.slice none 0 0) ∧ Below w.heap.size w w' ∧ (∀ k, S k → w.heap.size ≤ k) := by
  have hlen : 0 < ws.length ∧ ws.length ≤ 12 := by simp [okW] at hok; omega
  have hI : IntsAt w (some ⟨g, o, none⟩) ws := .inr ⟨g, o, rfl, hx⟩
  go_enter Tryz.func39, Tryz.ntmps39
  go_wp2_with fail
  refine (refWeights_at (some ⟨g, o, none⟩) c ws _ hI (by unfold maxLen; omega)).mono ?_
  rintro e w1 ⟨rfl, rfl⟩
  rw [hok]
  obtain ⟨i0, hi, hz0, hz1, hz2⟩ := info_parts info_int
  have h63 : Hid (0 + ws.length ≤ maxLen) := by show _ ≤ _; unfold maxLen; omega
  have hgl : g < w1.heap.size := World.block_lt_of_cell? w1 _ (hx 0 hlen.1)
  have hnews : ∀ j u, (ws.map I64)[j]? = some u → ((w1.alloc (.cells #[.int .i64 0] 3)).alloc (.cells #[.slice none 0 0, .slice (some ⟨w1.heap.size, 0, none⟩) 1 1, .slice none 0 0] 41)).cell? ((⟨g, o, none⟩ : Addr).add j) = some u := fun j u hu => by
    rw [add_none]
    obtain ⟨x, hxj, rfl⟩ := by simpa using hu
    have hlt : j < ws.length := (List.getElem?_eq_some_iff.1 hxj).1
    refine ((Chg.refl (fun _ => False) w1).alloc _ |>.alloc _).cell ?_ (fun hf => hf)
    rw [hx j hlt, hxj]; rfl
  clear hx hI
  go_wp2_with (at_builtin; refine wpList_append_lies _ (by rfl) _ _ _ (by rfl) 0 3 i0 (I64 0) 1 8 Tryz.underlying22 hi hz0 hz1 hz2 rfl (by omega) (.slice none 0 0) 0 [] (by rfl) (World.ownsRow_nil _ 0 3 1) ⟨g, o, none⟩ ws.length c (ws.map I64) (by rfl) (by simp) hnews (by simp [Value.oneCell']) hlen.1 h63.out (by omega) (Nat.zero_le _) (w1.heap.size + 1 + 1) (by simp) ?_; intro g1 cap1 w7 hown7 hgrow7 hat7 hlt7; have hb7 : w7.heap[w1.heap.size + 1]? = some (.cells #[.slice none 0 0, .slice (some ⟨w1.heap.size, 0, none⟩) 1 1, .slice none 0 0] 41 (0, 0)) := (hgrow7.block (w1.heap.size + 1) (by simp) (by simp [Value.ownBlock])).trans (by have := heap_alloc_new (w1.alloc (.cells #[.int .i64 0] 3)) (.cells #[.slice none 0 0, .slice (some ⟨w1.heap.size, 0, none⟩) 1 1, .slice none 0 0] 41); simpa using this); have hp7 : w7.heap[w1.heap.size]? = some (.cells #[.int .i64 0] 3 (0, 0)) := (hgrow7.block w1.heap.size (by simp; omega) (by simp [Value.ownBlock])).trans ((Below.heap_alloc _ _ _ (by simp)).trans (heap_alloc_new w1 _)); have hc7 : w7.cell? ⟨w1.heap.size + 1, 0, none⟩ = some (.slice none 0 0) := (cell_of_heap hb7 0).trans rfl; have hf7 : w7.frozen? ⟨w1.heap.size + 1, 0, none⟩ = false := frozen_of_heap hb7 0; have HB7 : Hid (w7.heap[w1.heap.size + 1]? = _) := hb7; have HP7 : Hid (w7.heap[w1.heap.size]? = _) := hp7; clear hb7 hp7)
  go_ret2
  have hb7 := HB7.out
  have hp7 := HP7.out
  simp only [Nat.zero_add, List.nil_append] at hown7
  have hg1 : g1 = w1.heap.size + 1 + 1 := hat7.elim (fun h => by simp [Value.ownBlock] at h) id
  have hB7 : Below w1.heap.size w1 w7 := (((Below.refl _ w1).alloc (Nat.le_refl _) _).alloc (by simp) _).grown hgrow7 (by simp; omega) (fun k e => by simp [Value.ownBlock] at e)
  have hprow : w7.ownsRow 0 3 1 (.slice (some ⟨w1.heap.size, 0, none⟩) 1 1) 1 [I64 0] := ⟨by simp, .inr ⟨w1.heap.size, 1, #[.int .i64 0], rfl, Nat.zero_le _, hp7, Nat.le_refl _, by unfold maxLen; omega, by simp, by simp⟩⟩
  have hset := heap_setCell_same w7 (w1.heap.size + 1) 0 _ _ (.slice (some ⟨g1, 0, none⟩) ws.length cap1) hb7
  refine ⟨w1.heap.size + 1, fun k => k = w1.heap.size ∨ k = w1.heap.size + 1 ∨ k = g1, .slice (some ⟨g1, 0, none⟩) ws.length cap1, .slice (some ⟨w1.heap.size, 0, none⟩) 1 1, by simp, ⟨?_, ?_, ?_, World.ownsRow_nil _ _ _ _, .inr (.inl rfl), fun k hk => ?_, fun k hk => ?_, fun k hk => ?_, fun k hk => ?_, fun k ob hk ho => ?_, fun k hk hk' => ?_⟩, ?_, fun k hk => ?_⟩
  · simpa using hset
  · simpa using row_setCell hown7 0 _ (by simp [Value.ownBlock]; omega)
  · simpa using row_setCell hprow 0 _ (by simp [Value.ownBlock])
  · simp [Value.ownBlock] at hk; exact .inr (.inr hk.symm)
  · simp [Value.ownBlock] at hk; exact .inl hk.symm
  · simp [Value.ownBlock] at hk
  · simp [World.setCell]; omega
  · rcases hk with rfl | rfl | rfl
    · rw [Below.heap_setCell _ _ _ _ (by simp)] at ho; rw [hp7] at ho; simp at ho; subst ho; rfl
    · rw [hset] at ho; simp at ho; subst ho; rfl
    · obtain ⟨cur, hc⟩ := row_type hown7 (k := k) rfl
      rw [Below.heap_setCell _ _ _ _ (by simp; omega)] at ho; rw [hc] at ho; simp at ho; subst ho; rfl
  · simp [Value.ownBlock] at hk hk'; omega
  · exact hB7.setCell (p := ⟨w1.heap.size + 1, 0, none⟩) (by simp) _
  · omega
end Go.Proofs.YtgebcnnenhgkcaaGreat
/- The document's own Court: Ahead, Block and Vote. -/
namespace Go.Proofs.YtgebcnnenhgkcaaGreat
open Go.RowKit

section
variable {w w1 : World} {b : Nat} {S : Nat → Prop} {ws ps ps' : List Int} {vs vs' : List Vt} {wv pv vv : Value}
theorem RefAt.c0 (h : RefAt w b S ws ps vs wv pv vv) : w.cell? ⟨b, 0, none⟩ = some wv := by rw [cell_of_heap h.heap]; rfl
theorem RefAt.c1 (h : RefAt w b S ws ps vs wv pv vv) : w.cell? ⟨b, 1, none⟩ = some pv := by rw [cell_of_heap h.heap]; rfl
theorem RefAt.c2 (h : RefAt w b S ws ps vs wv pv vv) : w.cell? ⟨b, 2, none⟩ = some vv := by rw [cell_of_heap h.heap]; rfl
theorem RefAt.fz (h : RefAt w b S ws ps vs wv pv vv) (o : Nat) : w.frozen? ⟨b, o, none⟩ = false := frozen_of_heap h.heap o

theorem RefAt.setP (h : RefAt w b S ws ps vs wv pv vv) (hc : Chg (fun k => pv.ownBlock = some k) w w1) {g cap : Nat}
    (hrow : w1.ownsRow 0 3 1 (.slice (some ⟨g, 0, none⟩) ps'.length cap) ps'.length (ps'.map I64)) (hg : pv.ownBlock = some g ∨ w.heap.size ≤ g) (hlt : g < w1.heap.size) :
    ∃ S' : Nat → Prop, RefAt (w1.setCell ⟨b, 1, none⟩ (.slice (some ⟨g, 0, none⟩) ps'.length cap)) b S' ws ps' vs wv (.slice (some ⟨g, 0, none⟩) ps'.length cap) vv ∧
    Chg S w (w1.setCell ⟨b, 1, none⟩ (.slice (some ⟨g, 0, none⟩) ps'.length cap)) ∧ ∀ k, S' k → S k ∨ w.heap.size ≤ k := by
  have hbl := h.lt b h.inb
  have hpb : pv.ownBlock ≠ some b := not_row h.prow h.heap (by decide)
  have hb1 : w1.heap[b]? = _ := (hc.block b hbl hpb).trans h.heap
  have hne : b ≠ g := fun e => by
    subst e
    rcases hg with hg | hg
    · exact hpb hg
    · omega
  have hvp : ∀ k, vv.ownBlock = some k → pv.ownBlock ≠ some k := fun k hk => by
    obtain ⟨c1, e1⟩ := row_type h.vrow hk
    exact not_row h.prow e1 (by decide)
  have hw1 : w1.ownsRow 0 3 1 wv ws.length (ws.map I64) := hc.row h.wrow (fun k hk hk' => h.apart k hk hk')
  have hv1 : w1.ownsRow 0 47 3 vv vs.length (vtRow vs) := hc.row h.vrow (fun k hk hk' => hvp k hk hk')
  have hwb : wv.ownBlock ≠ some b := not_row hw1 hb1 (by decide)
  have hvb : vv.ownBlock ≠ some b := not_row hv1 hb1 (by decide)
  refine ⟨fun k => (S k ∧ pv.ownBlock ≠ some k) ∨ k = g, ⟨?_, row_setCell hw1 _ _ hwb, row_setCell hrow _ _ (by simp [Value.ownBlock]; omega), row_setCell hv1 _ _ hvb, .inl ⟨h.inb, hpb⟩, fun k hk => .inl ⟨h.inw k hk, fun e => h.apart k hk e⟩, fun k hk => .inr (by simpa [Value.ownBlock] using hk.symm), fun k hk => .inl ⟨h.inv k hk, hvp k hk⟩, ?_, ?_, ?_⟩, ?_, ?_⟩
  · rw [heap_setCell_same w1 b 1 _ _ _ hb1]; rfl
  · intro k hk
    have hs : (w1.setCell ⟨b, 1, none⟩ (.slice (some ⟨g, 0, none⟩) ps'.length cap)).heap.size = w1.heap.size := by simp [World.setCell]
    rw [hs]
    rcases hk with hk | rfl
    · exact Nat.lt_of_lt_of_le (h.lt k hk.1) hc.size
    · exact hlt
  · intro k o hk ho
    by_cases e : k = b
    · subst e
      rw [heap_setCell_same w1 k 1 _ _ _ hb1] at ho
      simp at ho; subst ho; rfl
    · rw [Below.heap_setCell _ _ _ _ e] at ho
      rcases hk with hk | rfl
      · exact h.cells k o hk.1 ((hc.block k (h.lt k hk.1) hk.2).symm.trans ho)
      · obtain ⟨cur, hcur⟩ := row_type hrow (k := k) rfl
        rw [hcur] at ho; simp at ho; subst ho; rfl
  · intro k hk hk'
    simp [Value.ownBlock] at hk'
    subst hk'
    rcases hg with hg | hg
    · exact h.apart _ hk hg
    · have := h.lt _ (h.inw _ hk); omega
  · exact (hc.mono (fun k _ hk => h.inp k hk)).setCell (p := ⟨b, 1, none⟩) (.inl h.inb) _
  · rintro k (hk | rfl)
    · exact .inl hk.1
    · exact hg.elim (fun e => .inl (h.inp _ e)) .inr

theorem RefAt.setV (h : RefAt w b S ws ps vs wv pv vv) (hc : Chg (fun k => vv.ownBlock = some k) w w1) {g cap : Nat}
    (hrow : w1.ownsRow 0 47 3 (.slice (some ⟨g, 0, none⟩) vs'.length cap) vs'.length (vtRow vs')) (hg : vv.ownBlock = some g ∨ w.heap.size ≤ g) (hlt : g < w1.heap.size) :
    ∃ S' : Nat → Prop, RefAt (w1.setCell ⟨b, 2, none⟩ (.slice (some ⟨g, 0, none⟩) vs'.length cap)) b S' ws ps vs' wv pv (.slice (some ⟨g, 0, none⟩) vs'.length cap) ∧
    Chg S w (w1.setCell ⟨b, 2, none⟩ (.slice (some ⟨g, 0, none⟩) vs'.length cap)) ∧ ∀ k, S' k → S k ∨ w.heap.size ≤ k := by
  have hbl := h.lt b h.inb
  have hpb : vv.ownBlock ≠ some b := not_row h.vrow h.heap (by decide)
  have hb1 : w1.heap[b]? = _ := (hc.block b hbl hpb).trans h.heap
  have hne : b ≠ g := fun e => by
    subst e
    rcases hg with hg | hg
    · exact hpb hg
    · omega
  have hvp : ∀ k, pv.ownBlock = some k → vv.ownBlock ≠ some k := fun k hk => by
    obtain ⟨c1, e1⟩ := row_type h.prow hk
    exact not_row h.vrow e1 (by decide)
  have hwp : ∀ k, wv.ownBlock = some k → vv.ownBlock ≠ some k := fun k hk => by
    obtain ⟨c1, e1⟩ := row_type h.wrow hk
    exact not_row h.vrow e1 (by decide)
  have hw1 : w1.ownsRow 0 3 1 wv ws.length (ws.map I64) := hc.row h.wrow (fun k hk hk' => hwp k hk hk')
  have hv1 : w1.ownsRow 0 3 1 pv ps.length (ps.map I64) := hc.row h.prow (fun k hk hk' => hvp k hk hk')
  have hwb : wv.ownBlock ≠ some b := not_row hw1 hb1 (by decide)
  have hvb : pv.ownBlock ≠ some b := not_row hv1 hb1 (by decide)
  refine ⟨fun k => (S k ∧ vv.ownBlock ≠ some k) ∨ k = g, ⟨?_, row_setCell hw1 _ _ hwb, row_setCell hv1 _ _ hvb, row_setCell hrow _ _ (by simp [Value.ownBlock]; omega), .inl ⟨h.inb, hpb⟩, fun k hk => .inl ⟨h.inw k hk, hwp k hk⟩, fun k hk => .inl ⟨h.inp k hk, hvp k hk⟩, fun k hk => .inr (by simpa [Value.ownBlock] using hk.symm), ?_, ?_, h.apart⟩, ?_, ?_⟩
  · rw [heap_setCell_same w1 b 2 _ _ _ hb1]; rfl
  · intro k hk
    have hs : (w1.setCell ⟨b, 2, none⟩ (.slice (some ⟨g, 0, none⟩) vs'.length cap)).heap.size = w1.heap.size := by simp [World.setCell]
    rw [hs]
    rcases hk with hk | rfl
    · exact Nat.lt_of_lt_of_le (h.lt k hk.1) hc.size
    · exact hlt
  · intro k o hk ho
    by_cases e : k = b
    · subst e
      rw [heap_setCell_same w1 k 2 _ _ _ hb1] at ho
      simp at ho; subst ho; rfl
    · rw [Below.heap_setCell _ _ _ _ e] at ho
      rcases hk with hk | rfl
      · exact h.cells k o hk.1 ((hc.block k (h.lt k hk.1) hk.2).symm.trans ho)
      · obtain ⟨cur, hcur⟩ := row_type hrow (k := k) rfl
        rw [hcur] at ho; simp at ho; subst ho; rfl
  · exact (hc.mono (fun k _ hk => h.inv k hk)).setCell (p := ⟨b, 2, none⟩) (.inl h.inb) _
  · rintro k (hk | rfl)
    · exact .inl hk.1
    · exact hg.elim (fun e => .inl (h.inv _ e)) .inr

end

theorem refAhead_at (b g cap : Nat) (ps : List Int) (hT : Tree ps) (a k : Int) (hk0 : 0 ≤ k) (hk1 : k.toNat < ps.length) (w : World) (hA : TreeAt w b 1 g cap ps) :
    Calls Tryz.prog 106 #[.pointer (some ⟨b, 0, none⟩), .int .i64 a, .int .i64 k] w fun e w' => e = .returned (.bool (ahead ps a k)) ∧ w' = w := by
  have hlen : ps.length ≤ 40 := hT.2.1
  have hpv := hA.pv
  go_enter Tryz.func106, Tryz.ntmps106
  go_wp2
  go_loop [2] (fun p => ∃ x : Int, p = .int .i64 x ∧ 0 ≤ x ∧ x.toNat < ps.length ∧ Hid (ahead ps a k = ahead ps a x)) (fun p => (intOf p).toNat)
  case atStart => exact ⟨k, rfl, hk0, hk1, rfl⟩
  case round =>
    obtain ⟨x, rfl, hx0, hx1, hah⟩ := hrel
    by_cases hx : x = 0
    · subst hx
      go_wp2
      go_ret
      exact ⟨by rw [hah.out]; rfl, rfl⟩
    · have hxp : 0 < x := by omega
      have hxb : (x != 0) = true := by simpa using hx
      obtain ⟨p, hpe⟩ : ∃ p, ps[x.toNat]?.getD 0 = p := ⟨_, rfl⟩
      have hcx : w.cell? ⟨g, x.toNat, none⟩ = some (.int .i64 p) := by rw [← hpe]; exact hA.cs _ hx1
      have hpr := hT.2.2.2 x.toNat (by omega) hx1
      rw [hpe] at hpr
      have HS : Hid (ahead ps a x = (p == a || ahead ps a p)) := by rw [← hpe]; exact ahead_step hT hxp hx1
      clear hpe
      by_cases hap : a = p
      · subst hap
        have hb : (a == a) = true := by simp
        go_wp2
        go_ret
        exact ⟨by rw [hah.out, HS.out]; simp, rfl⟩
      · have hb : (a == p) = false := by simpa using hap
        go_wp2
        go_round
        case rel => exact ⟨p, rfl, by omega, by omega, by show _ = _; rw [hah.out, HS.out]; simp [Ne.symm hap]⟩
        case measure => simp [intOf]; omega
end Go.Proofs.YtgebcnnenhgkcaaGreat
/- The document's own Block. -/
namespace Go.Proofs.YtgebcnnenhgkcaaGreat
open Go.RowKit

theorem refBlock_none (b : Nat) (S : Nat → Prop) (ws ps : List Int) (vs : List Vt) (wv pv vv : Value) (p : Int) (w : World) (h : RefAt w b S ws ps vs wv pv vv) (hT : Tree ps) (hno : hasB ps.length p = false) :
    Calls Tryz.prog 73 #[.pointer (some ⟨b, 0, none⟩), .int .i64 p] w fun e w' => e = .returned (.tuple #[.int .i64 0, .int .i64 4]) ∧ w' = w := by
  have h1 := h.c1
  obtain ⟨g0, cap0, rfl, hle0, hm0, hcs0, _⟩ := row_open h.prow hT.1
  clear hm0 hcs0
  have hlen : ps.length ≤ 40 := hT.2.1
  have hn : p < 0 ∨ (ps.length : Int) ≤ p := by simp [hasB] at hno; omega
  by_cases hp : p < 0
  all_goals
    go_enter Tryz.func73, Tryz.ntmps73
    go_wp2
    go_ret2
    exact ⟨rfl, rfl⟩

theorem refBlock_many (b : Nat) (S : Nat → Prop) (ws ps : List Int) (vs : List Vt) (wv pv vv : Value) (p : Int) (w : World) (h : RefAt w b S ws ps vs wv pv vv) (hT : Tree ps) (hyes : hasB ps.length p = true) (hfull : 40 ≤ ps.length) :
    Calls Tryz.prog 73 #[.pointer (some ⟨b, 0, none⟩), .int .i64 p] w fun e w' => e = .returned (.tuple #[.int .i64 0, .int .i64 7]) ∧ w' = w := by
  have h1 := h.c1
  obtain ⟨g0, cap0, rfl, hle0, hm0, hcs0, _⟩ := row_open h.prow hT.1
  clear hm0 hcs0
  have hlen : ps.length ≤ 40 := hT.2.1
  have hn : 0 ≤ p ∧ p < (ps.length : Int) := by simpa [hasB] using hyes
  obtain ⟨hn0, hn1⟩ := hn
  have hn0' : ¬ p < 0 := by omega
  go_enter Tryz.func73, Tryz.ntmps73
  go_wp2
  go_ret2
  exact ⟨rfl, rfl⟩

set_option maxRecDepth 100000 in
set_option maxHeartbeats 1000000 in
theorem refBlock_ok (b : Nat) (S : Nat → Prop) (ws ps : List Int) (vs : List Vt) (wv pv vv : Value) (p : Int) (w : World) (h : RefAt w b S ws ps vs wv pv vv) (hT : Tree ps) (hyes : hasB ps.length p = true) (hroom : ps.length < 40) :
    Calls Tryz.prog 73 #[.pointer (some ⟨b, 0, none⟩), .int .i64 p] w fun e w' => e = .returned (.tuple #[.int .i64 ps.length, .int .i64 0]) ∧
      ∃ (S' : Nat → Prop) (pv' : Value), RefAt w' b S' ws (ps ++ [p]) vs wv pv' vv ∧ Chg S w w' ∧ (∀ k, S' k → S k ∨ w.heap.size ≤ k) := by
  obtain ⟨i0, hi, hz0, hz1, hz2⟩ := info_parts info_int
  have hbl := h.lt b h.inb
  have h1 := h.c1
  have hf1 := h.fz 1
  have hpb : pv.ownBlock ≠ some b := not_row h.prow h.heap (by decide)
  obtain ⟨g0, cap0, rfl, hle0, hm0, hcs0, _⟩ := row_open h.prow hT.1
  have h63 : Hid (ps.length + 1 ≤ maxLen) := by show _ ≤ _; unfold maxLen; omega
  clear hm0 hcs0
  have hn : 0 ≤ p ∧ p < (ps.length : Int) := by simpa [hasB] using hyes
  obtain ⟨hn0, hn1⟩ := hn
  have hn0' : ¬ p < 0 := by omega
  go_enter Tryz.func73, Tryz.ntmps73
  go_wp2_with (at_builtin; refine wpList_append_lies _ (by rfl) _ _ _ (by rfl) 0 3 i0 (I64 0) 1 8 Tryz.underlying22 hi hz0 hz1 hz2 rfl (by omega) (.slice (some ⟨g0, 0, none⟩) ps.length cap0) ps.length (ps.map I64) (by rfl) (h.prow.alloc _) ⟨w.heap.size, 0, none⟩ 1 1 [I64 p] (by rfl) (by rfl) (cell_one_new _ _ _) (by simp [Value.oneCell']) (by omega) h63.out (by omega) (Nat.zero_le _) (w.heap.size + 1) (by simp) ?_; intro g cap w1 hown hgrow hat hlt; have hb1 : w1.heap[b]? = w.heap[b]? := (hgrow.block b (by simp; omega) (fun e => hpb e.symm)).trans (Below.heap_alloc w _ b hbl); have hx3 : w1.cell? ⟨b, 1, none⟩ = some (.slice (some ⟨g0, 0, none⟩) ps.length cap0) := (World.cell?_of_block hb1).trans h1; have hxf : w1.frozen? ⟨b, 1, none⟩ = false := (World.frozen?_of_block hb1).trans hf1; clear hb1)
  go_ret2
  refine ⟨by simp, ?_⟩
  have hc : Chg (fun k => Value.ownBlock (.slice (some ⟨g0, 0, none⟩) ps.length cap0) = some k) w w1 := ((Chg.refl _ w).alloc _).grown hgrow (fun k e => .inl e)
  obtain ⟨S', a1, a2, a3⟩ := h.setP (ps' := ps ++ [p]) hc (g := g) (cap := cap) (by simpa using hown) (hat.elim .inl (fun e => .inr (by omega))) hlt
  simp only [List.length_append, List.length_cons, List.length_nil, Nat.zero_add] at a1 a2
  exact ⟨S', ⟨_, a1⟩, a2, a3⟩

/-- The document's Block: the same answer, the same tree. -/
theorem refBlock_at (b : Nat) (S : Nat → Prop) (ws ps : List Int) (vs : List Vt) (wv pv vv : Value) (p : Int) (w : World) (h : RefAt w b S ws ps vs wv pv vv) (hT : Tree ps) :
    Calls Tryz.prog 73 #[.pointer (some ⟨b, 0, none⟩), .int .i64 p] w fun e w' => e = .returned (.tuple #[.int .i64 (blkN ps p), .int .i64 (blkE ps p)]) ∧
      ∃ (S' : Nat → Prop) (pv' : Value), RefAt w' b S' ws (blkP ps p) vs wv pv' vv ∧ Chg S w w' ∧ (∀ k, S' k → S k ∨ w.heap.size ≤ k) := by
  unfold blkN blkE blkP
  cases hh : hasB ps.length p
  · refine (refBlock_none b S ws ps vs wv pv vv p w h hT hh).mono ?_
    rintro e w' ⟨rfl, rfl⟩
    exact ⟨by simp, S, pv, by simpa using h, Chg.refl _ _, fun k hk => .inl hk⟩
  · by_cases hf : 40 ≤ ps.length
    · refine (refBlock_many b S ws ps vs wv pv vv p w h hT hh hf).mono ?_
      rintro e w' ⟨rfl, rfl⟩
      exact ⟨by simp [hf], S, pv, by simpa [hf] using h, Chg.refl _ _, fun k hk => .inl hk⟩
    · simpa [hf] using refBlock_ok b S ws ps vs wv pv vv p w h hT hh (by omega)
end Go.Proofs.YtgebcnnenhgkcaaGreat
