/- Just returns, and leaves the Court as it was. -/
import Derived.Test.YtalkalnncegicaaLinked
namespace Go.Proofs.Ytalkalnncegicaa
open Go.RowKit

set_option maxRecDepth 100000 in
set_option maxHeartbeats 2000000 in
theorem numbersOf_any (g n : Nat) (w : World) (hM : Marks w g n) (hn : n ≤ 40) (h0 : 0 < n) :
    Calls Try.prog 41 #[.slice (some ⟨g, 0, none⟩) n n] w fun e w' => (∃ v, e = .returned v) ∧ Below w.heap.size w w' := by
  obtain ⟨i0, hi, hz0, hz1, hz2⟩ := info_parts info_int
  obtain ⟨r0, hr0⟩ := hM 0 h0
  have hgl : g < w.heap.size := World.block_lt_of_cell? w _ hr0
  clear hr0 r0
  go_enter Try.func41, Try.ntmps41
  go_wp2
  go_loopw [3, 8] (fun v i wr => ∃ (k l : Nat) (xs : List Value), k ≤ n ∧ l ≤ k ∧ i = .int .i64 k ∧ Below w.heap.size w wr ∧ wr.ownsRow w.heap.size 3 1 v l xs)
    (fun _ i _ => n - (intOf i).toNat)
  case atStart => exact ⟨0, 0, [], by omega, by omega, rfl, Below.refl _ _, World.ownsRow_nil _ _ _ _⟩
  case round =>
    obtain ⟨k, l, xs, hk, hlk, rfl, hB, hown⟩ := hrel
    have hz := hB.size
    by_cases hlt : k < n
    · have hlt' : (k : Int) < (n : Int) := by omega
      obtain ⟨r, hr⟩ := hM k hlt
      have hr' : wr.cell? ⟨g, k, none⟩ = some (.bool r) := (hB.cell (p := ⟨g, k, none⟩) hgl).trans hr
      clear hr
      cases r
      · go_wp2
        go_roundw
        case rel => exact ⟨k + 1, l, xs, by omega, by omega, by go_num, hB, hown⟩
        case measure => simp [intOf]; omega
      · have h63 : Hid (l + 1 ≤ maxLen) := by show _ ≤ _; unfold maxLen; omega
        go_wp2_with (at_builtin; refine wpList_append_own _ (by rfl) _ _ _ (by rfl) w.heap.size 3 i0 (I64 0) 1 8 Try.underlying22 hi hz0 hz1 hz2 rfl (by omega) _ l xs (by rfl) (hown.alloc _) ⟨wr.heap.size, 0, none⟩ 1 1 [I64 k] (by rfl) (by rfl) (cell_one_new _ _ _) (by simp [Value.oneCell']) h63.out (by omega) (by simp; omega) ?_; intro v1 w1 hown1 hgrow1 hnil1)
        go_roundw
        case rel => exact ⟨k + 1, l + 1, _, by omega, by omega, by go_num, (hB.alloc hz _).grown hgrow1 (by simp; omega) (fun j e => (hown.lt j e).1), hown1⟩
        case measure => simp [intOf]; omega
    · go_wp2
      go_ret
      exact ⟨⟨_, rfl⟩, hB⟩

set_option maxHeartbeats 1000000 in
theorem just_any (b : Nat) (S : Nat → Prop) (ws ps : List Int) (vs : List Vt) (wv pv vv : Value) (w : World) (h : CourtAt w b S 0 ws ps vs wv pv vv) (hT : Tree ps) (hw : 0 < ws.length) (hw2 : ws.length ≤ 12) (hl : vs.length ≤ 300) (hov : ∀ y ∈ vs, 0 ≤ y.v ∧ y.v < ws.length) :
    Calls Try.prog 14 #[.pointer (some ⟨b, 0, none⟩)] w fun e w' => (∃ v, e = .returned v) ∧ CourtAt w' b S 0 ws ps vs wv pv vv ∧ Chg S w w' := by
  obtain ⟨gw, capw, rfl, _, _, _, _⟩ := row_open h.wrow hw
  obtain ⟨h1, c1⟩ := h.setM 1
  have hd : decide (0 < ws.length) = true := by simpa using hw
  go_enter_defers Try.func14, Try.ntmps14
  go_wp2_with fail
  refine (lock_at b 0 _ h.c0 (h.fz 0)).mono ?_
  rintro e w1 ⟨rfl, hw1⟩
  rw [← hw1] at h1 c1
  clear hw1
  go_wp2_with fail
  refine (made_at b 0 _ _ _ _ h1.c2).mono ?_
  rintro e w2 ⟨rfl, rfl⟩
  rw [hd]
  go_wp2_with fail
  refine (justBlocks_any b S 1 ws ps vs _ pv vv _ h1 hT hw hw2 hl hov).mono ?_
  rintro e w3 ⟨⟨g, rfl, hM⟩, hB3⟩
  go_wp2_with fail
  refine (numbersOf_any g ps.length _ hM hT.2.1 hT.1).mono ?_
  rintro e w4 ⟨⟨v, rfl⟩, hB4⟩
  have hB5 : Below w2.heap.size w2 w4 := hB3.trans (hB4.mono hB3.size)
  have h4 := h1.kept (Chg.of_below (fun _ => False) hB5) (fun _ _ hf => hf)
  go_wp2_with fail
  refine leaves_cons (f := 23) (args := #[.pointer (some ⟨b, 0, none⟩)]) (by simp) (by simp [go_sem]) ?_
  refine (unlock_at b 0 .returning _ h4.c0 (h4.fz 0)).mono ?_
  rintro e u' w'' ⟨rfl, rfl, rfl⟩
  obtain ⟨h5, c5⟩ := h4.setM 0
  exact ⟨_, results_tmp rfl _ _ _, ⟨_, rfl⟩, h5, (c1.trans (Chg.of_below S hB5)).trans c5⟩
end Go.Proofs.Ytalkalnncegicaa
