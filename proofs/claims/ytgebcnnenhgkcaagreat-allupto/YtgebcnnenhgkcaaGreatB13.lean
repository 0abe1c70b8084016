/- A list that is lent: a copy with three more behind it. -/
import Derived.Test.YtgebcnnenhgkcaaGreatB02
import Derived.Test.YtgebcnnenhgkcaaGreatB05
namespace Go.Proofs.YtgebcnnenhgkcaaGreat
open Go.RowKit

theorem row_base {w : World} {base : Nat} {e : TypeId} {size : Nat} {v : Value} {n : Nat} {xs : List Value} (h : w.ownsRow base e size v n xs) : w.ownsRow 0 e size v n xs := by
  refine ⟨h.1, ?_⟩
  rcases h.2 with hn | ⟨g, cap, cur, h1, _, h3⟩
  · exact .inl hn
  · exact .inr ⟨g, cap, cur, h1, Nat.zero_le _, h3⟩

theorem add_none (g o j : Nat) : (⟨g, o, none⟩ : Addr).add j = ⟨g, o + j, none⟩ := by unfold Addr.add; split <;> simp_all

set_option maxRecDepth 100000 in
set_option maxHeartbeats 1000000 in
theorem lent_any (p : Option Addr) (c : Nat) (xs : List Int) (w : World) (hx : IntsAt w p xs) (hn : p = none → c = 0 ∧ xs = []) (hb : (xs.length + 3) * 8 ≤ 140737488355328) :
    Calls Tryz.prog 37 #[.slice p xs.length c] w fun e w' => ∃ g1 cap, e = .returned (.slice (some ⟨g1, 0, none⟩) (xs.length + 3) cap) ∧
      w'.ownsRow 0 3 1 (.slice (some ⟨g1, 0, none⟩) (xs.length + 3) cap) (xs.length + 3) ((xs ++ [77, 77, 77]).map I64) ∧ w.heap.size ≤ g1 ∧ Below w.heap.size w w' := by
  obtain ⟨i0, hi, hz0, hz1, hz2⟩ := info_parts info_int
  have h63 : Hid (xs.length + 3 ≤ maxLen) := by show _ ≤ _; unfold maxLen; omega
  have h64 : Hid (0 + xs.length ≤ maxLen) := by show _ ≤ _; unfold maxLen; omega
  have hb8 : Hid ((xs.length + 3) * 8 ≤ 140737488355328) := hb
  have hb9 : Hid ((0 + xs.length) * 8 ≤ 140737488355328) := by show _ ≤ _; omega
  clear hb
  rcases p with _ | a
  · obtain ⟨rfl, rfl⟩ := hn rfl
    go_enter Tryz.func37, Tryz.ntmps37
    go_wp2_with (first
      | (at_builtin; refine wpList_append_lies _ (by rfl) _ _ _ (by rfl) 0 3 i0 (I64 0) 1 8 Tryz.underlying22 hi hz0 hz1 hz2 rfl (by omega) (.slice none 0 0) 0 [] (by rfl) (World.ownsRow_nil _ 0 3 1) ⟨w.heap.size, 0, none⟩ 3 3 [I64 77, I64 77, I64 77] (by rfl) (by rfl) (World.news_of_block (cs := #[I64 77, I64 77, I64 77]) (heap_alloc_new _ _)) (by simp [Value.oneCell']) (by omega) h63.out hb8.out (Nat.zero_le _) (w.heap.size + 1) (by simp) ?_; intro g1 cap1 w7 hown7 hgrow7 hat7 hlt7))
    go_ret
    refine ⟨g1, cap1, rfl, by simpa using hown7, ?_, ?_⟩
    · rcases hat7 with h | h
      · simp [Value.ownBlock] at h
      · omega
    · exact ((Below.refl _ w).alloc (Nat.le_refl _) _).grown hgrow7 (by simp) (fun k e => by simp [Value.ownBlock] at e)
  · have hnews : ∀ j u, (xs.map I64)[j]? = some u → w.cell? (a.add j) = some u := fun j u hu => by
      rcases hx with rfl | ⟨g', o', he, hc⟩
      · simp at hu
      · injection he with he
        rw [he, add_none]
        obtain ⟨x, hxj, rfl⟩ := by simpa using hu
        have hlt : j < xs.length := (List.getElem?_eq_some_iff.1 hxj).1
        rw [hc j hlt, hxj]; rfl
    clear hx hn
    go_enter Tryz.func37, Tryz.ntmps37
    go_wp2_with (first
      | (at_builtin; refine wpList_append_own _ (by rfl) _ _ _ (by rfl) w.heap.size 3 i0 (I64 0) 1 8 Tryz.underlying22 hi hz0 hz1 hz2 rfl (by omega) (.slice none 0 0) 0 [] (by rfl) (World.ownsRow_nil _ w.heap.size 3 1) a xs.length c (xs.map I64) (by rfl) (by simp) hnews (by simp [Value.oneCell']) h64.out hb9.out (Nat.le_refl _) ?_; intro v1 w1 hown1 hgrow1 hnil1; clear hnews; clear h64; simp only [Nat.zero_add, List.nil_append] at hown1)
      | (at_builtin; refine wpList_append_lies _ (by rfl) _ _ _ (by rfl) 0 3 i0 (I64 0) 1 8 Tryz.underlying22 hi hz0 hz1 hz2 rfl (by omega) v1 xs.length (xs.map I64) (by rfl) ((row_base hown1).alloc _) ⟨w1.heap.size, 0, none⟩ 3 3 [I64 77, I64 77, I64 77] (by rfl) (by rfl) (World.news_of_block (cs := #[I64 77, I64 77, I64 77]) (heap_alloc_new _ _)) (by simp [Value.oneCell']) (by omega) h63.out hb8.out (Nat.zero_le _) (w1.heap.size + 1) (by simp) ?_; intro g1 cap1 w7 hown7 hgrow7 hat7 hlt7))
    go_ret
    have hz1' : w.heap.size ≤ w1.heap.size := hgrow1.size
    have hB1 : Below w.heap.size w w1 := (Below.refl _ w).grown hgrow1 (Nat.le_refl _) (fun k e => by simp [Value.ownBlock] at e)
    have hv1 : ∀ k, v1.ownBlock = some k → w.heap.size ≤ k := fun k e => (hown1.lt k e).1
    refine ⟨g1, cap1, rfl, by simpa using hown7, ?_, ?_⟩
    · rcases hat7 with h | h
      · exact hv1 g1 h
      · omega
    · exact (hB1.alloc hz1' _).grown hgrow7 (by simp; omega) hv1
theorem lent_at (p : Option Addr) (c : Nat) (xs : List Int) (w : World) (hx : IntsAt w p xs) (_ : p = none ∨ ∃ g o, p = some ⟨g, o, none⟩) (hn : p = none → c = 0 ∧ xs = []) (hb : (xs.length + 3) * 8 ≤ 140737488355328) :
    Calls Tryz.prog 37 #[.slice p xs.length c] w fun e w' => ∃ g1 cap, e = .returned (.slice (some ⟨g1, 0, none⟩) (xs.length + 3) cap) ∧
      w'.ownsRow 0 3 1 (.slice (some ⟨g1, 0, none⟩) (xs.length + 3) cap) (xs.length + 3) ((xs ++ [77, 77, 77]).map I64) ∧ w.heap.size ≤ g1 ∧ Below w.heap.size w w' := lent_any p c xs w hx hn hb
end Go.Proofs.YtgebcnnenhgkcaaGreat
/- The tests of weights: the program's and the document's. -/
namespace Go.Proofs.YtgebcnnenhgkcaaGreat
open Go.RowKit

set_option maxHeartbeats 1000000 in
theorem right_at (p : Option Addr) (c : Nat) (ws : List Int) (w : World) (hx : IntsAt w p ws) (hl : ws.length ≤ maxLen) :
    Calls Tryz.prog 60 #[.slice p ws.length c] w fun e w' => e = .returned (.bool (okW ws)) ∧ w' = w := by
  unfold maxLen at hl
  by_cases h1 : ws.length < 1
  · rw [okW_short h1]
    have h1' : (ws.length : Int) < 1 := by omega
    go_enter Tryz.func60, Tryz.ntmps60
    go_wp2
    go_ret
    exact ⟨rfl, rfl⟩
  by_cases h2 : 12 < ws.length
  · rw [okW_long h2]
    have h1' : ¬ (ws.length : Int) < 1 := by omega
    have h2' : (12 : Int) < (ws.length : Int) := by omega
    go_enter Tryz.func60, Tryz.ntmps60
    go_wp2
    go_ret
    exact ⟨rfl, rfl⟩
  rcases hx with rfl | ⟨g, o, rfl, hcx⟩
  · simp at h1
  have HCX : Hid (∀ j, j < ws.length → w.cell? ⟨g, o + j, none⟩ = some (I64 (ws[j]?.getD 0))) := hcx
  clear hcx
  have h1' : ¬ (ws.length : Int) < 1 := by omega
  have h2' : ¬ (12 : Int) < (ws.length : Int) := by omega
  go_enter Tryz.func60, Tryz.ntmps60
  go_wp2
  go_loop [15] (fun i => ∃ k : Nat, k ≤ ws.length ∧ i = .int .i64 k ∧ Hid (∀ x ∈ ws.take k, 1 ≤ x ∧ x ≤ 100))
    (fun i => ws.length - (intOf i).toNat)
  case atStart => exact ⟨0, by omega, rfl, by simp [Hid]⟩
  case round =>
    obtain ⟨k, hk, rfl, hok⟩ := hrel
    by_cases hlt : k < ws.length
    · have hlt' : (k : Int) < (ws.length : Int) := by omega
      obtain ⟨x, hxk⟩ : ∃ x, ws[k]?.getD 0 = x := ⟨_, rfl⟩
      have hc : w.cell? ⟨g, o + k, none⟩ = some (I64 x) := by rw [← hxk]; exact HCX.out k hlt
      have HX : Hid (ws[k]? = some x) := by show _ = _; rw [← hxk]; simp [hlt]
      clear hxk
      have hmem : x ∈ ws := List.mem_of_getElem? HX.out
      by_cases hb : x < 1
      · have HF : Hid (okW ws = false) := okW_at hmem (.inl hb)
        go_wp2
        go_ret
        exact ⟨by rw [HF.out]; rfl, rfl⟩
      by_cases hb2 : 100 < x
      · have HF : Hid (okW ws = false) := okW_at hmem (.inr hb2)
        go_wp2
        go_ret
        exact ⟨by rw [HF.out]; rfl, rfl⟩
      have hnext : Hid (∀ x ∈ ws.take (k + 1), 1 ≤ x ∧ x ≤ 100) := by
        show ∀ y ∈ _, _
        rw [List.take_add_one, HX.out]
        intro y hy
        simp at hy
        rcases hy with hy | rfl
        · exact hok.out y hy
        · omega
      go_wp2
      go_round
      case rel => exact ⟨k + 1, by omega, by go_num, hnext⟩
      case measure => simp [intOf]; omega
    · have HT : Hid (okW ws = true) := by
        have := hok.out
        rw [List.take_of_length_le (by omega)] at this
        exact okW_all (by omega) (by omega) this
      go_wp2
      go_ret
      exact ⟨by rw [HT.out]; rfl, rfl⟩

set_option maxHeartbeats 1000000 in
theorem refWeights_at (p : Option Addr) (c : Nat) (ws : List Int) (w : World) (hx : IntsAt w p ws) (hl : ws.length ≤ maxLen) :
    Calls Tryz.prog 71 #[.slice p ws.length c] w fun e w' => e = .returned (.bool (okW ws)) ∧ w' = w := by
  unfold maxLen at hl
  by_cases h1 : ws.length < 1
  · rw [okW_short h1]
    have h1' : (ws.length : Int) < 1 := by omega
    go_enter Tryz.func71, Tryz.ntmps71
    go_wp2
    go_ret
    exact ⟨rfl, rfl⟩
  by_cases h2 : 12 < ws.length
  · rw [okW_long h2]
    have h1' : ¬ (ws.length : Int) < 1 := by omega
    have h2' : (12 : Int) < (ws.length : Int) := by omega
    go_enter Tryz.func71, Tryz.ntmps71
    go_wp2
    go_ret
    exact ⟨rfl, rfl⟩
  rcases hx with rfl | ⟨g, o, rfl, hcx⟩
  · simp at h1
  have HCX : Hid (∀ j, j < ws.length → w.cell? ⟨g, o + j, none⟩ = some (I64 (ws[j]?.getD 0))) := hcx
  clear hcx
  have h1' : ¬ (ws.length : Int) < 1 := by omega
  have h2' : ¬ (12 : Int) < (ws.length : Int) := by omega
  go_enter Tryz.func71, Tryz.ntmps71
  go_wp2
  go_loop [3] (fun i => ∃ k : Nat, k ≤ ws.length ∧ i = .int .i64 k ∧ Hid (∀ x ∈ ws.take k, 1 ≤ x ∧ x ≤ 100))
    (fun i => ws.length - (intOf i).toNat)
  case atStart => exact ⟨0, by omega, rfl, by simp [Hid]⟩
  case round =>
    obtain ⟨k, hk, rfl, hok⟩ := hrel
    by_cases hlt : k < ws.length
    · have hlt' : (k : Int) < (ws.length : Int) := by omega
      obtain ⟨x, hxk⟩ : ∃ x, ws[k]?.getD 0 = x := ⟨_, rfl⟩
      have hc : w.cell? ⟨g, o + k, none⟩ = some (I64 x) := by rw [← hxk]; exact HCX.out k hlt
      have HX : Hid (ws[k]? = some x) := by show _ = _; rw [← hxk]; simp [hlt]
      clear hxk
      have hmem : x ∈ ws := List.mem_of_getElem? HX.out
      by_cases hb : x < 1
      · have HF : Hid (okW ws = false) := okW_at hmem (.inl hb)
        go_wp2
        go_ret
        exact ⟨by rw [HF.out]; rfl, rfl⟩
      by_cases hb2 : 100 < x
      · have HF : Hid (okW ws = false) := okW_at hmem (.inr hb2)
        go_wp2
        go_ret
        exact ⟨by rw [HF.out]; rfl, rfl⟩
      have hnext : Hid (∀ x ∈ ws.take (k + 1), 1 ≤ x ∧ x ≤ 100) := by
        show ∀ y ∈ _, _
        rw [List.take_add_one, HX.out]
        intro y hy
        simp at hy
        rcases hy with hy | rfl
        · exact hok.out y hy
        · omega
      go_wp2
      go_round
      case rel => exact ⟨k + 1, by omega, by go_num, hnext⟩
      case measure => simp [intOf]; omega
    · have HT : Hid (okW ws = true) := by
        have := hok.out
        rw [List.take_of_length_le (by omega)] at this
        exact okW_all (by omega) (by omega) this
      go_wp2
      go_ret
      exact ⟨by rw [HT.out]; rfl, rfl⟩

end Go.Proofs.YtgebcnnenhgkcaaGreat
/- Block: a block more, or what speaks against it. -/
namespace Go.Proofs.YtgebcnnenhgkcaaGreat
open Go.RowKit

def blkN (ps : List Int) (p : Int) : Int := if hasB ps.length p = false then 0 else if 40 ≤ ps.length then 0 else ps.length
def blkE (ps : List Int) (p : Int) : Int := if hasB ps.length p = false then 4 else if 40 ≤ ps.length then 7 else 0
def blkP (ps : List Int) (p : Int) : List Int := if hasB ps.length p = false then ps else if 40 ≤ ps.length then ps else ps ++ [p]

theorem lay_at (b : Nat) (S : Nat → Prop) (ws ps : List Int) (vs : List Vt) (wv pv vv : Value) (p : Int) (w : World) (h : CourtAt w b S 1 ws ps vs wv pv vv) (hT : Tree ps) :
    Calls Tryz.prog 49 #[.pointer (some ⟨b, 0, none⟩), .int .i64 p] w fun e w' => e = .returned (.tuple #[.int .i64 (blkN ps p), .int .i64 (blkE ps p)]) ∧
      ∃ (S' : Nat → Prop) (pv' : Value), CourtAt w' b S' 1 ws (blkP ps p) vs wv pv' vv ∧ Chg S w w' ∧ (∀ k, S' k → S k ∨ w.heap.size ≤ k) := by
  unfold blkN blkE blkP
  cases hh : hasB ps.length p
  · simpa using lay_none b S ws ps vs wv pv vv p w h hT.1 hh
  · by_cases hf : 40 ≤ ps.length
    · simpa [hf] using lay_many b S ws ps vs wv pv vv p w h hT.1 hh hf hT.2.1
    · simpa [hf] using lay_ok b S ws ps vs wv pv vv p w h hT.1 hh (by omega)

theorem blkP_tree {ps : List Int} (hT : Tree ps) (p : Int) : Tree (blkP ps p) := by
  unfold blkP
  split
  · exact hT
  · rename_i hh
    split
    · exact hT
    · rename_i hf
      have hh' : 0 ≤ p ∧ p < ps.length := by
        have : hasB ps.length p = true := by simpa using hh
        simpa [hasB] using this
      refine ⟨by simp, by simp; omega, ?_, ?_⟩
      · rw [List.getElem?_append_left hT.1]; exact hT.2.2.1
      · intro i hi hl
        simp at hl
        by_cases e : i < ps.length
        · rw [List.getElem?_append_left e]; exact hT.2.2.2 i hi e
        · have : i = ps.length := by omega
          subst this
          simp; omega

set_option maxHeartbeats 1000000 in
/-- Block. -/
theorem block_at (b : Nat) (S : Nat → Prop) (ws ps : List Int) (vs : List Vt) (wv pv vv : Value) (p : Int) (w : World) (h : CourtAt w b S 0 ws ps vs wv pv vv) (hT : Tree ps) (hw : 0 < ws.length) :
    Calls Tryz.prog 12 #[.pointer (some ⟨b, 0, none⟩), .int .i64 p] w fun e w' => e = .returned (.tuple #[.int .i64 (blkN ps p), .int .i64 (blkE ps p)]) ∧
      ∃ (S' : Nat → Prop) (pv' : Value), CourtAt w' b S' 0 ws (blkP ps p) vs wv pv' vv ∧ Chg S w w' ∧ (∀ k, S' k → S k ∨ w.heap.size ≤ k) := by
  obtain ⟨gw, capw, rfl, _, _, _, _⟩ := row_open h.wrow hw
  obtain ⟨h1, c1⟩ := h.setM 1
  have hd : decide (0 < ws.length) = true := by simpa using hw
  go_enter_defers Tryz.func12, Tryz.ntmps12
  go_wp2_with fail
  refine (lock_at b 0 _ h.c0 (h.fz 0)).mono ?_
  rintro e w1 ⟨rfl, hw1⟩
  rw [← hw1] at h1 c1
  clear hw1
  go_wp2_with fail
  refine (made_at b 0 _ _ _ _ h1.c2).mono ?_
  rintro e w2 ⟨rfl, rfl⟩
  rw [hd]
  go_wp2_with fail
  refine (lay_at b S ws ps vs _ pv vv p _ h1 hT).mono ?_
  rintro e w3 ⟨rfl, S', pv', h3, c3, s3⟩
  go_wp2_with fail
  refine leaves_cons (f := 33) (args := #[.pointer (some ⟨b, 0, none⟩)]) (by simp) (by simp [go_sem]) ?_
  refine (unlock_at b 0 .returning _ h3.c0 (h3.fz 0)).mono ?_
  rintro e u' w'' ⟨rfl, rfl, rfl⟩
  obtain ⟨h4, c4⟩ := h3.setM 0
  refine ⟨_, results_tmp2 rfl _ _ _, rfl, S', pv', h4, (c1.trans c3).then c4 (fun k hk => (s3 k hk).imp id (fun hle => Nat.le_trans c1.size hle)), fun k hk => (s3 k hk).imp id (fun hle => Nat.le_trans c1.size hle)⟩
end Go.Proofs.YtgebcnnenhgkcaaGreat
