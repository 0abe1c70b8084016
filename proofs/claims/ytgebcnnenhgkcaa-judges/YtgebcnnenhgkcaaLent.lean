/- A list that is lent: a copy with three more behind it. -/
import Derived.Test.YtgebcnnenhgkcaaIntsA
import Derived.Test.YtgebcnnenhgkcaaLay
namespace Go.Proofs.Ytgebcnnenhgkcaa
open Go.RowKit

theorem row_base {w : World} {base : Nat} {e : TypeId} {size : Nat} {v : Value} {n : Nat} {xs : List Value} (h : w.ownsRow base e size v n xs) : w.ownsRow 0 e size v n xs := by
  refine ⟨h.1, ?_⟩
  rcases h.2 with hn | ⟨g, cap, cur, h1, _, h3⟩
  · exact .inl hn
  · exact .inr ⟨g, cap, cur, h1, Nat.zero_le _, h3⟩

theorem add_none (g o j : Nat) : (⟨g, o, none⟩ : Addr).add j = ⟨g, o + j, none⟩ := by unfold Addr.add; split <;> simp_all

set_option maxRecDepth 100000 in
set_option maxHeartbeats 1000000 in
theorem lent_any (p : Option Addr) (c : Nat) (xs : List Int) (w : World) (hx : IntsAt w p xs) (hn : p = none → c = 0 ∧ xs = []) (hb : (xs.length + 3) * 8 ≤ 140737488355328) :
    Calls Try.prog 21 #[.slice p xs.length c] w fun e w' => ∃ g1 cap, e = .returned (.slice (some ⟨g1, 0, none⟩) (xs.length + 3) cap) ∧
      w'.ownsRow 0 3 1 (.slice (some ⟨g1, 0, none⟩) (xs.length + 3) cap) (xs.length + 3) ((xs ++ [77, 77, 77]).map I64) ∧ w.heap.size ≤ g1 ∧ Below w.heap.size w w' := by
  obtain ⟨i0, hi, hz0, hz1, hz2⟩ := info_parts info_int
  have h63 : Hid (xs.length + 3 ≤ maxLen) := by show _ ≤ _; unfold maxLen; omega
  have h64 : Hid (0 + xs.length ≤ maxLen) := by show _ ≤ _; unfold maxLen; omega
  have hb8 : Hid ((xs.length + 3) * 8 ≤ 140737488355328) := hb
  have hb9 : Hid ((0 + xs.length) * 8 ≤ 140737488355328) := by show _ ≤ _; omega
  clear hb
  rcases p with _ | a
  · obtain ⟨rfl, rfl⟩ := hn rfl
    go_enter Try.func21, Try.ntmps21
    go_wp2_with (first
      | (at_builtin; refine wpList_append_lies _ (by rfl) _ _ _ (by rfl) 0 3 i0 (I64 0) 1 8 Try.underlying22 hi hz0 hz1 hz2 rfl (by omega) (.slice none 0 0) 0 [] (by rfl) (World.ownsRow_nil _ 0 3 1) ⟨w.heap.size, 0, none⟩ 3 3 [I64 77, I64 77, I64 77] (by rfl) (by rfl) (World.news_of_block (cs := #[I64 77, I64 77, I64 77]) (heap_alloc_new _ _)) (by simp [Value.oneCell']) (by omega) h63.out hb8.out (Nat.zero_le _) (w.heap.size + 1) (by simp) ?_; intro g1 cap1 w7 hown7 hgrow7 hat7 hlt7))
    go_ret
    refine ⟨g1, cap1, rfl, by simpa using hown7, ?_, ?_⟩
    · rcases hat7 with h | h
      · simp [Value.ownBlock] at h
      · omega
    · exact ((Below.refl _ w).alloc (Nat.le_refl _) _).grown hgrow7 (by simp) (fun k e => by simp [Value.ownBlock] at e)
  · have hnews : ∀ j u, (xs.map I64)[j]? = some u → w.cell? (a.add j) = some u := fun j u hu => by
      rcases hx with rfl | ⟨g', o', he, hc⟩
      · simp at hu
      · injection he with he
        rw [he, add_none]
        obtain ⟨x, hxj, rfl⟩ := by simpa using hu
        have hlt : j < xs.length := (List.getElem?_eq_some_iff.1 hxj).1
        rw [hc j hlt, hxj]; rfl
    clear hx hn
    go_enter Try.func21, Try.ntmps21
    go_wp2_with (first
      | (at_builtin; refine wpList_append_own _ (by rfl) _ _ _ (by rfl) w.heap.size 3 i0 (I64 0) 1 8 Try.underlying22 hi hz0 hz1 hz2 rfl (by omega) (.slice none 0 0) 0 [] (by rfl) (World.ownsRow_nil _ w.heap.size 3 1) a xs.length c (xs.map I64) (by rfl) (by simp) hnews (by simp [Value.oneCell']) h64.out hb9.out (Nat.le_refl _) ?_; intro v1 w1 hown1 hgrow1 hnil1; clear hnews; clear h64; simp only [Nat.zero_add, List.nil_append] at hown1)
      | (at_builtin; refine wpList_append_lies _ (by rfl) _ _ _ (by rfl) 0 3 i0 (I64 0) 1 8 Try.underlying22 hi hz0 hz1 hz2 rfl (by omega) v1 xs.length (xs.map I64) (by rfl) ((row_base hown1).alloc _) ⟨w1.heap.size, 0, none⟩ 3 3 [I64 77, I64 77, I64 77] (by rfl) (by rfl) (World.news_of_block (cs := #[I64 77, I64 77, I64 77]) (heap_alloc_new _ _)) (by simp [Value.oneCell']) (by omega) h63.out hb8.out (Nat.zero_le _) (w1.heap.size + 1) (by simp) ?_; intro g1 cap1 w7 hown7 hgrow7 hat7 hlt7))
    go_ret
    have hz1' : w.heap.size ≤ w1.heap.size := hgrow1.size
    have hB1 : Below w.heap.size w w1 := (Below.refl _ w).grown hgrow1 (Nat.le_refl _) (fun k e => by simp [Value.ownBlock] at e)
    have hv1 : ∀ k, v1.ownBlock = some k → w.heap.size ≤ k := fun k e => (hown1.lt k e).1
    refine ⟨g1, cap1, rfl, by simpa using hown7, ?_, ?_⟩
    · rcases hat7 with h | h
      · exact hv1 g1 h
      · omega
    · exact (hB1.alloc hz1' _).grown hgrow7 (by simp; omega) hv1
theorem lent_at (p : Option Addr) (c : Nat) (xs : List Int) (w : World) (hx : IntsAt w p xs) (_ : p = none ∨ ∃ g o, p = some ⟨g, o, none⟩) (hn : p = none → c = 0 ∧ xs = []) (hb : (xs.length + 3) * 8 ≤ 140737488355328) :
    Calls Try.prog 21 #[.slice p xs.length c] w fun e w' => ∃ g1 cap, e = .returned (.slice (some ⟨g1, 0, none⟩) (xs.length + 3) cap) ∧
      w'.ownsRow 0 3 1 (.slice (some ⟨g1, 0, none⟩) (xs.length + 3) cap) (xs.length + 3) ((xs ++ [77, 77, 77]).map I64) ∧ w.heap.size ≤ g1 ∧ Below w.heap.size w w' := lent_any p c xs w hx hn hb
end Go.Proofs.Ytgebcnnenhgkcaa
