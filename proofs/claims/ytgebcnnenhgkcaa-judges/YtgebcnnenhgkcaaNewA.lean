/- New: a Court whose tree has the root alone, of weights that are not kept. -/
import Derived.Test.YtgebcnnenhgkcaaLent
import Derived.Test.YtgebcnnenhgkcaaWeights
import Derived.Test.YtgebcnnenhgkcaaBlockA
import Derived.Lib.SliceRun
namespace Go.Proofs.Ytgebcnnenhgkcaa
open Go.RowKit

set_option maxRecDepth 100000 in
set_option maxHeartbeats 1000000 in
theorem cloneInts_at (g o c : Nat) (xs : List Int) (w : World) (hx : ∀ j, j < xs.length → w.cell? ⟨g, o + j, none⟩ = some (I64 (xs[j]?.getD 0))) (h0 : 0 < xs.length) (hl : xs.length ≤ 12) :
    Calls Try.prog 54 #[.slice (some ⟨g, o, none⟩) xs.length c] w fun e w' => ∃ g1 cap, e = .returned (.slice (some ⟨g1, 0, none⟩) xs.length cap) ∧
      w'.ownsRow 0 3 1 (.slice (some ⟨g1, 0, none⟩) xs.length cap) xs.length (xs.map I64) ∧ w.heap.size ≤ g1 ∧ Below w.heap.size w w' := by
  obtain ⟨i0, hi, hz0, hz1, hz2⟩ := info_parts info_int
  have h63 : Hid (0 + xs.length ≤ maxLen) := by show _ ≤ _; unfold maxLen; omega
  have hgl : g < w.heap.size := World.block_lt_of_cell? w _ (hx 0 h0)
  have hnews : ∀ j u, (xs.map I64)[j]? = some u → (w.alloc (.cells #[] 3)).cell? ((⟨g, o, none⟩ : Addr).add j) = some u := fun j u hu => by
    rw [add_none]
    obtain ⟨x, hxj, rfl⟩ := by simpa using hu
    have hlt : j < xs.length := (List.getElem?_eq_some_iff.1 hxj).1
    refine (Chg.alloc (Chg.refl (fun _ => False) w) _).cell ?_ (fun hf => hf)
    rw [hx j hlt, hxj]; rfl
  have hown0 : (w.alloc (.cells #[] 3)).ownsRow 0 3 1 (.slice (some ⟨w.heap.size, 0, none⟩) 0 0) 0 [] := World.ownsRow_lit w #[] 0 (Nat.zero_le _) (Nat.zero_le _) (by simp)
  clear hx
  have q22 : ∀ (w : World) (a : Option Addr) (n c : Nat), (binOp .eql 22 (.slice a n c) (.slice none 0 0)).run Try.prog w = .ok (.bool a.isNone) w := fun w a n c => Lib.run_eql_slice_nil w _ _ a n c 0 0 Try.underlying22
  go_enter Try.func54, Try.ntmps54
  go_wp2_with (at_builtin; refine wpList_append_lies _ (by rfl) _ _ _ (by rfl) 0 3 i0 (I64 0) 1 8 Try.underlying22 hi hz0 hz1 hz2 rfl (by omega) (.slice (some ⟨w.heap.size, 0, none⟩) 0 0) 0 [] (by rfl) hown0 ⟨g, o, none⟩ xs.length c (xs.map I64) (by rfl) (by simp) hnews (by simp [Value.oneCell']) h0 h63.out (by omega) (Nat.zero_le _) (w.heap.size + 1) (by simp) ?_; intro g1 cap1 w7 hown7 hgrow7 hat7 hlt7)
  go_ret
  simp only [Nat.zero_add, List.nil_append] at hown7
  refine ⟨g1, cap1, by simp, hown7, ?_, ?_⟩
  · rcases hat7 with h | h
    · simp [Value.ownBlock] at h; omega
    · omega
  · exact ((Below.refl _ w).alloc (Nat.le_refl _) _).grown hgrow7 (by simp) (fun k e => by simp [Value.ownBlock] at e; omega)

theorem planted_at (w : World) :
    Calls Try.prog 55 #[] w fun e w' => e = .returned (.agg #[.slice (some ⟨w.heap.size + 1, 0, none⟩) 1 1]) ∧
      w'.ownsRow 0 3 1 (.slice (some ⟨w.heap.size + 1, 0, none⟩) 1 1) 1 [I64 0] ∧ Below w.heap.size w w' := by
  go_enter Try.func55, Try.ntmps55
  go_wp2
  refine bodyPost_ret (v := .agg #[.slice (some ⟨w.heap.size + 1, 0, none⟩) 1 1]) (by simp [results, Try.results55, go_sem]) rfl ⟨rfl, ?_, ?_⟩
  · have := World.ownsRow_lit (base := 0) (e := 3) (size := 1) (w.alloc (.cells #[.slice (some ⟨w.heap.size + 1, 0, none⟩) 1 1] 43)) #[I64 0] 1 (Nat.zero_le _) (by unfold maxLen; omega) (by simp)
    simpa using this
  · exact ((Below.refl _ w).alloc (Nat.le_refl _) _).alloc (by simp) _

/-- A Court as New makes it. -/
theorem new_ok (g o c : Nat) (ws : List Int) (w : World) (hx : ∀ j, j < ws.length → w.cell? ⟨g, o + j, none⟩ = some (I64 (ws[j]?.getD 0))) (hok : okW ws = true) :
    Calls Try.prog 31 #[.slice (some ⟨g, o, none⟩) ws.length c] w fun e w' => ∃ b S wv pv, e = .returned (.tuple #[.pointer (some ⟨b, 0, none⟩), .int .i64 0]) ∧
      CourtAt w' b S 0 ws [0] [] wv pv (.slice none 0 0) ∧ Below w.heap.size w w' ∧ (∀ k, S k → w.heap.size ≤ k) := by
  have hlen : 0 < ws.length ∧ ws.length ≤ 12 := by simp [okW] at hok; omega
  have hI : IntsAt w (some ⟨g, o, none⟩) ws := .inr ⟨g, o, rfl, hx⟩
  go_enter Try.func31, Try.ntmps31
  go_wp2_with fail
  refine (right_at (some ⟨g, o, none⟩) c ws _ hI (by unfold maxLen; omega)).mono ?_
  rintro e w1 ⟨rfl, rfl⟩
  rw [hok]
  go_wp2_with fail
  refine (cloneInts_at g o c ws _ hx hlen.1 hlen.2).mono ?_
  rintro e w2 ⟨g1, cap, rfl, hown, hg1, hB2⟩
  go_wp2_with fail
  refine (planted_at _).mono ?_
  rintro e w3 ⟨rfl, hown3, hB3⟩
  go_wp2_with fail
  go_ret2
  have hz2 : w1.heap.size ≤ w2.heap.size := hB2.size
  have hz3 : w2.heap.size ≤ w3.heap.size := hB3.size
  have hg2 : g1 < w2.heap.size := (hown.lt g1 rfl).2
  have hp3 : w2.heap.size + 1 < w3.heap.size := (hown3.lt _ rfl).2
  have hown' : w3.ownsRow 0 3 1 (.slice (some ⟨g1, 0, none⟩) ws.length cap) ws.length (ws.map I64) := Chg.row (Chg.of_below (fun _ => False) hB3) hown (fun _ _ hf => hf)
  refine ⟨w3.heap.size, fun k => k = g1 ∨ k = w2.heap.size + 1 ∨ k = w3.heap.size, _, _, rfl, ⟨heap_alloc_new w3 _, hown'.alloc _, by simpa using hown3.alloc _, World.ownsRow_nil _ _ _ _, .inr (.inr rfl), fun k hk => ?_, fun k hk => ?_, fun k hk => ?_, fun k hk => ?_, fun k ob hk ho => ?_, fun k hk hk' => ?_⟩, ?_, fun k hk => ?_⟩
  · simp [Value.ownBlock] at hk; exact .inl hk.symm
  · simp [Value.ownBlock] at hk; exact .inr (.inl hk.symm)
  · simp [Value.ownBlock] at hk
  · simp; omega
  · rcases hk with rfl | rfl | rfl
    · obtain ⟨cur, hc⟩ := row_type (hown'.alloc _) (k := k) rfl
      rw [hc] at ho; simp at ho; subst ho; rfl
    · obtain ⟨cur, hc⟩ := row_type (hown3.alloc _) (k := w2.heap.size + 1) rfl
      rw [hc] at ho; simp at ho; subst ho; rfl
    · rw [heap_alloc_new] at ho; simp at ho; subst ho; rfl
  · simp [Value.ownBlock] at hk hk'; omega
  · exact (hB2.trans (hB3.mono hz2)).alloc (by omega) _
  · omega

/-- New, of weights that are none. -/
theorem new_no (p : Option Addr) (c : Nat) (ws : List Int) (w : World) (hI : IntsAt w p ws) (hl : ws.length ≤ maxLen) (hok : okW ws = false) :
    Calls Try.prog 31 #[.slice p ws.length c] w fun e w' => e = .returned (.tuple #[.pointer none, .int .i64 1]) ∧ w' = w := by
  go_enter Try.func31, Try.ntmps31
  go_wp2_with fail
  refine (right_at p c ws _ hI hl).mono ?_
  rintro e w1 ⟨rfl, rfl⟩
  rw [hok]
  go_wp2
  go_ret2
  exact ⟨rfl, rfl⟩

end Go.Proofs.Ytgebcnnenhgkcaa
