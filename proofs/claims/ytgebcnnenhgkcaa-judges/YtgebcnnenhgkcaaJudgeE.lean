/- judge, Judge: what is answered, in new memory. -/
import Derived.Test.YtgebcnnenhgkcaaJudgeD
namespace Go.Proofs.Ytgebcnnenhgkcaa
open Go.RowKit Go.Shelf

def parB (ps : List Int) (i : Nat) : Bool := decide (0 ≤ ps[i]?.getD 0) && decide (ps[i]?.getD 0 < (i : Int))
def parsB (ps : List Int) : Nat → Bool
  | 0 => true
  | k + 1 => parsB ps k && (decide (k = 0) || parB ps k)
theorem parsB_iff {ps : List Int} : ∀ {n : Nat}, parsB ps n = true ↔ ∀ i, 0 < i → i < n → 0 ≤ ps[i]?.getD 0 ∧ ps[i]?.getD 0 < (i : Int) := by
  intro n
  induction n with
  | zero => simp [parsB]
  | succ n ih =>
    simp only [parsB, Bool.and_eq_true, ih, Bool.or_eq_true, decide_eq_true_eq, parB]
    constructor
    · rintro ⟨h1, h2⟩ i hi hl
      by_cases e : i = n
      · subst e
        rcases h2 with h2 | h2
        · omega
        · exact h2
      · exact h1 i hi (by omega)
    · intro h
      refine ⟨fun i hi hl => h i hi (by omega), ?_⟩
      by_cases e : n = 0
      · exact .inl e
      · exact .inr (h n (by omega) (by omega))
theorem parsB_up {ps : List Int} {k n : Nat} (h : parsB ps k = false) (hk : k ≤ n) : parsB ps n = false := by
  rw [Bool.eq_false_iff] at h ⊢
  intro h1
  apply h
  rw [parsB_iff] at h1 ⊢
  exact fun i hi hl => h1 i hi (by omega)
def treeB (ps : List Int) : Bool := (decide (1 ≤ ps.length) && decide (ps.length ≤ 40)) && ((ps[0]?.getD 0 == 0) && parsB ps ps.length)
theorem treeB_iff {ps : List Int} : treeB ps = true ↔ Tree ps := by
  unfold treeB Tree
  simp only [Bool.and_eq_true, decide_eq_true_eq, beq_iff_eq, parsB_iff]
  constructor
  · rintro ⟨⟨h1, h2⟩, h3, h4⟩; exact ⟨by omega, h2, h3, h4⟩
  · rintro ⟨h1, h2, h3, h4⟩; exact ⟨⟨by omega, h2⟩, h3, h4⟩

set_option maxRecDepth 100000 in
set_option maxHeartbeats 2000000 in
theorem treeRight_at (p : Option Addr) (c : Nat) (ps : List Int) (w : World) (hx : IntsAt w p ps) (hl : ps.length ≤ maxLen) :
    Calls Try.prog 43 #[.slice p ps.length c] w fun e w' => e = .returned (.bool (treeB ps)) ∧ w' = w := by
  have hml : ps.length ≤ 9223372036854775807 := by unfold maxLen at hl; omega
  clear hl
  by_cases hn1 : ps.length < 1
  · have hn1' : (ps.length : Int) < 1 := by omega
    have HB : Hid (treeB ps = false) := by show _ = _; unfold treeB; simp; omega
    go_enter Try.func43, Try.ntmps43
    go_wp2
    go_ret
    exact ⟨by rw [HB.out]; rfl, rfl⟩
  have hn1' : ¬ (ps.length : Int) < 1 := by omega
  by_cases hn2 : ps.length > 40
  · have hn2' : (ps.length : Int) > 40 := by omega
    have HB : Hid (treeB ps = false) := by show _ = _; unfold treeB; simp; omega
    go_enter Try.func43, Try.ntmps43
    go_wp2
    go_ret
    exact ⟨by rw [HB.out]; rfl, rfl⟩
  have hn2' : ¬ (ps.length : Int) > 40 := by omega
  rcases hx with rfl | ⟨g, o, rfl, hcs⟩
  · simp at hn1
  have h0p : (0 : Int) < (ps.length : Int) := by omega
  have h0n : 0 < ps.length := by omega
  obtain ⟨y, hy⟩ : ∃ y, ps[0]?.getD 0 = y := ⟨_, rfl⟩
  have hc0 : w.cell? ⟨g, o, none⟩ = some (I64 y) := by have := hcs 0 h0n; rw [hy] at this; simpa using this
  have HT : Hid (treeB ps = ((y == 0) && parsB ps ps.length)) := by
    show _ = _
    unfold treeB
    have q1 : decide (1 ≤ ps.length) = true := by simp; omega
    have q2 : decide (ps.length ≤ 40) = true := by simp; omega
    rw [q1, q2, hy]; rfl
  have HCS : Hid (∀ j, j < ps.length → w.cell? ⟨g, o + j, none⟩ = some (I64 (ps[j]?.getD 0))) := hcs
  clear hcs hy
  by_cases hy0 : y = 0
  · have q : (y != 0) = false := by simpa using hy0
    have HT' : Hid (treeB ps = parsB ps ps.length) := by show _ = _; rw [HT.out, hy0]; simp
    clear HT hy0
    go_enter Try.func43, Try.ntmps43
    go_wp2_with fail
    go_loop [3] (fun i => ∃ k : Nat, 1 ≤ k ∧ k ≤ ps.length ∧ i = .int .i64 k ∧ Hid (parsB ps k = true)) (fun i => ps.length - (intOf i).toNat)
    case atStart => exact ⟨1, by omega, by omega, rfl, rfl⟩
    case round =>
      obtain ⟨k, hk1, hk, rfl, HP⟩ := hrel
      by_cases hlt : k < ps.length
      · have hlt' : (k : Int) < (ps.length : Int) := by omega
        obtain ⟨z, hz⟩ : ∃ z, ps[k]?.getD 0 = z := ⟨_, rfl⟩
        have hcz : w.cell? ⟨g, o + k, none⟩ = some (I64 z) := by rw [← hz]; exact HCS.out k hlt
        have HS : Hid (parsB ps (k + 1) = (decide (0 ≤ z) && decide (z < (k : Int)))) := by
          show _ = _
          simp only [parsB]
          rw [HP.out, Bool.true_and]
          unfold parB
          rw [hz]
          have : decide (k = 0) = false := by simp; omega
          rw [this, Bool.false_or]
        have HF : Hid (parsB ps (k + 1) = false → treeB ps = false) := fun hf => by rw [HT'.out]; exact parsB_up hf (by omega)
        clear hz
        by_cases c1 : z < 0
        · have HB : Hid (treeB ps = false) := HF.out (by rw [HS.out]; simp; omega)
          clear HS HF
          go_wp2
          go_ret
          exact ⟨by rw [HB.out]; rfl, rfl⟩
        · by_cases c2 : z ≥ (k : Int)
          · have HB : Hid (treeB ps = false) := HF.out (by rw [HS.out]; simp; omega)
            clear HS HF
            go_wp2
            go_ret
            exact ⟨by rw [HB.out]; rfl, rfl⟩
          · have HB : Hid (parsB ps (k + 1) = true) := by show _ = _; rw [HS.out]; simp; omega
            clear HS HF
            go_wp2
            go_round
            case rel => exact ⟨k + 1, by omega, by omega, by go_num, HB⟩
            case measure => simp [intOf]; omega
      · have hkk : k = ps.length := by omega
        have HB : Hid (treeB ps = true) := by show _ = _; rw [HT'.out, ← hkk]; exact HP.out
        clear hkk
        go_wp2
        go_ret
        exact ⟨by rw [HB.out]; rfl, rfl⟩
  · have q : (y != 0) = true := by simpa using hy0
    have HB : Hid (treeB ps = false) := by show _ = _; rw [HT.out]; simp [hy0]
    clear HT hy0
    go_enter Try.func43, Try.ntmps43
    go_wp2
    go_ret
    exact ⟨by rw [HB.out]; rfl, rfl⟩

theorem grown_at (g o c : Nat) (ps : List Int) (w : World) (hx : ∀ j, j < ps.length → w.cell? ⟨g, o + j, none⟩ = some (I64 (ps[j]?.getD 0))) (h0 : 0 < ps.length) (hl : ps.length ≤ 40) :
    Calls Try.prog 44 #[.slice (some ⟨g, o, none⟩) ps.length c] w fun e w' => (∃ g1 cap, e = .returned (.agg #[.slice (some ⟨g1, 0, none⟩) ps.length cap]) ∧ w'.ownsRow w.heap.size 3 1 (.slice (some ⟨g1, 0, none⟩) ps.length cap) ps.length (ps.map I64)) ∧ Below w.heap.size w w' := by
  have hBa : Below w.heap.size w (w.alloc (.cells #[.slice none 0 0] 43)) := (Below.refl _ w).alloc (Nat.le_refl _) _
  have hgl : g < w.heap.size := World.block_lt_of_cell? w _ (hx 0 h0)
  go_enter Try.func44, Try.ntmps44
  go_wp2_with fail
  obtain ⟨wa, hwa⟩ : ∃ wa, w.alloc (.cells #[.slice none 0 0] 43) = wa := ⟨_, rfl⟩
  have hra : wa.heap[w.heap.size]? = some (.cells #[.slice none 0 0] 43 (0, 0)) := by rw [← hwa]; exact heap_alloc_new w _
  have hza : wa.heap.size = w.heap.size + 1 := by rw [← hwa]; simp
  rw [hwa] at hBa ⊢
  clear hwa
  refine (cloneTree_at g o c ps wa (fun j hj => (hBa.cell (p := ⟨g, o + j, none⟩) hgl).trans (hx j hj)) h0 hl).mono ?_
  rintro e w1 ⟨g1, cap, rfl, hown, hg1, hB1⟩
  have hr1 : w1.heap[w.heap.size]? = some (.cells #[.slice none 0 0] 43 (0, 0)) := (hB1.block _ (by omega)).trans hra
  have z0 : w1.cell? ⟨w.heap.size, 0, none⟩ = some (.slice none 0 0) := by rw [cell_of_heap hr1]; rfl
  have fz : w1.frozen? ⟨w.heap.size, 0, none⟩ = false := frozen_of_heap hr1 0
  clear hx
  go_wp2
  have y0 : (w1.setCell ⟨w.heap.size, 0, none⟩ (.slice (some ⟨g1, 0, none⟩) ps.length cap)).cell? ⟨w.heap.size, 0, none⟩ = some (.slice (some ⟨g1, 0, none⟩) ps.length cap) := World.cell?_setCell_same' _ _ _ (by rw [z0]; rfl)
  refine ⟨rfl, .agg #[.slice (some ⟨g1, 0, none⟩) ps.length cap], ?_, ⟨g1, cap, rfl, ?_⟩, (hBa.trans (hB1.mono (by omega))).setCell (p := ⟨w.heap.size, 0, none⟩) (Nat.le_refl _) _⟩
  · simp only [results, Try.f44]
    simp [go_sem, y0]
  · have hr := row_setCell (b := w.heap.size) hown 0 (.slice (some ⟨g1, 0, none⟩) ps.length cap) (by simp [Value.ownBlock]; omega)
    refine ⟨hr.1, ?_⟩
    rcases hr.2 with h9 | ⟨g', cap', cur, h9, _, h10⟩
    · exact .inl h9
    · refine .inr ⟨g', cap', cur, h9, ?_, h10⟩
      simp only [Value.slice.injEq, Option.some.injEq, Addr.mk.injEq] at h9
      omega

theorem isRight_at (b gw cw g0 cap0 : Nat) (p1 p2 : Option Addr) (c1 c2 : Nat) (ws ps : List Int) (X Y Z : List LkV) (p : Option Addr) (c : Nat) (w : World) (h : SuitAt w b gw cw g0 cap0 p1 p2 c1 c2 ws ps X Y) (hT : Tree ps) (hW : OkWs ws) (hZ : LkAt w p Z) (hm : Z.length ≤ maxLen) :
    Calls Try.prog 68 #[.pointer (some ⟨b, 0, none⟩), .slice p Z.length c] w fun e w' => e = .returned (.bool (rightB ws ps (Z.map (fun x => x.1)))) ∧ Below w.heap.size w w' := by
  have h0 := h.h0
  have hBd : Below w.heap.size w w.drew := (Below.refl _ w).drew
  have hd := h.below hT hBd
  have hpr := pRight_at b 1 g0 cap0 gw cw ws ps Z p c w.drew hd.tr hd.ww hT hW (hZ.below hBd) hm
  have hlb := h.tr.lt_b
  go_enter Try.func68, Try.ntmps68
  go_wp2_with fail
  go_region_held3 (fun w' => w'.cell? ⟨b, 0, none⟩ = some (.slice (some ⟨gw, 0, none⟩) ws.length cw))
    (first | assumption | simpa)
    ((go_at_call 89; refine hpr.mono ?_; rintro e w7 ⟨rfl, hB7⟩; have hB7' : Below w.heap.size w w7 := hBd.trans hB7; have h0' := (hB7'.cell (p := ⟨b, 0, none⟩) hlb).trans h0; clear hB7))
  go_wp2
  go_ret
  exact ⟨rfl, hB7'⟩
end Go.Proofs.Ytgebcnnenhgkcaa
