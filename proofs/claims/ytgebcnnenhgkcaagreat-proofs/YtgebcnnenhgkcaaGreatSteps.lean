/- The steps of a script over both Courts: Block and Vote. -/
import Derived.Test.YtgebcnnenhgkcaaGreatBegun
import Derived.Deep.RegionHeld3
namespace Go.Proofs.YtgebcnnenhgkcaaGreat
open Go.RowKit

section
variable {w w' : World} {Pr : Nat → Prop} {x b rb : Nat} {S R : Nat → Prop} {ws ps : List Int} {vs : List Vt}

theorem BothAt.x0 (h : BothAt w Pr x b rb S R ws ps vs) : w.cell? ⟨x, 0, none⟩ = some (.pointer (some ⟨b, 0, none⟩)) := by rw [cell_of_heap h.box]; rfl
theorem BothAt.x1 (h : BothAt w Pr x b rb S R ws ps vs) : w.cell? ⟨x, 1, none⟩ = some (.pointer (some ⟨rb, 0, none⟩)) := by rw [cell_of_heap h.box]; rfl
theorem BothAt.ltx (h : BothAt w Pr x b rb S R ws ps vs) : x < w.heap.size := (Array.getElem?_eq_some_iff.1 h.box).1

/-- The program's Court has turned. -/
theorem BothAt.courtTo {S' : Nat → Prop} (h : BothAt w Pr x b rb S R ws ps vs) (hc : Chg S w w') (hs : ∀ k, S' k → S k ∨ w.heap.size ≤ k) :
    w'.heap[x]? = w.heap[x]? ∧ (∃ wv pv vv, RefAt w' rb R ws ps vs wv pv vv) ∧ (∀ k, S' k → ¬ R k) ∧ ¬ S' x ∧ (∀ k, S' k → ¬ Pr k) ∧ Chg (fun k => ¬ Pr k) w w' := by
  obtain ⟨rwv, rpv, rvv, hR⟩ := h.doc
  refine ⟨hc.block x h.ltx h.xS, ⟨rwv, rpv, rvv, hR.kept hc (fun k hk hk' => h.dis k hk' hk)⟩, fun k hk hk' => ?_, fun hk => ?_, fun k hk hp => ?_, hc.mono (fun k _ hk => h.lowS k hk)⟩
  · rcases hs k hk with h1 | h1
    · exact h.dis k h1 hk'
    · have := hR.lt k hk'; omega
  · rcases hs x hk with h1 | h1
    · exact h.xS h1
    · have := h.ltx; omega
  · rcases hs k hk with h1 | h1
    · exact h.lowS k h1 hp
    · have := h.le k hp; omega
end

theorem OkV.blk {n : Nat} {ps : List Int} {vs : List Vt} (h : OkV n ps vs) (hT : Tree ps) (p : Int) : OkV n (blkP ps p) vs := by
  have hT2 := blkP_tree hT p
  unfold blkP at *
  split
  · exact h
  · rename_i h1
    rw [if_neg h1] at hT2
    split
    · exact h
    · rename_i h2
      rw [if_neg h2] at hT2
      refine ⟨h.v, fun y hy => ⟨(h.t y hy).1, by have := (h.t y hy).2; simp; omega⟩, fun y hy => ?_, h.nd⟩
      have := h.a y hy
      rw [ahead_mem] at this ⊢
      rw [up_append hT hT2 _ _ (h.t y hy).1 (h.t y hy).2 (Nat.le_refl _)]
      exact this
theorem OkV.vot {n : Nat} {ps : List Int} {vs : List Vt} (h : OkV n ps vs) (x : Vt) : OkV n ps (votV n ps vs x) := by
  unfold votV
  split
  · rename_i hf
    unfold manyV
    split
    · exact h
    · cases hv : hasB n x.v
      · simp [fault, hv] at hf
      cases hs : hasB ps.length x.s
      · simp [fault, hv, hs] at hf
      cases ht : hasB ps.length x.t
      · simp [fault, hv, hs, ht] at hf
      cases ha : ahead ps x.s x.t
      · simp [fault, hv, hs, ht, ha] at hf
      cases hany : vs.any (fun y => x.is y)
      · obtain ⟨t0, t1⟩ := hasB_iff.1 ht
        have hm : ∀ y, y ∈ vs ++ [x] → y ∈ vs ∨ y = x := fun y hy => by simpa using hy
        refine ⟨fun y hy => ?_, fun y hy => ?_, fun y hy => ?_, ?_⟩
        · rcases hm y hy with h1 | rfl
          · exact h.v y h1
          · exact hasB_iff.1 hv
        · rcases hm y hy with h1 | rfl
          · exact h.t y h1
          · exact ⟨t0, by omega⟩
        · rcases hm y hy with h1 | rfl
          · exact h.a y h1
          · exact ha
        · rw [List.nodup_append]
          refine ⟨h.nd, by simp, fun a ha' b hb e => ?_⟩
          simp only [List.mem_singleton] at hb
          subst hb
          rw [e] at ha'
          rw [List.any_eq_false] at hany
          exact hany _ ha' (Vt.is_iff.2 rfl)
      · simp [fault, hv, hs, ht, ha, hany] at hf
  · exact h

set_option maxHeartbeats 1000000 in
theorem blockLaw_at (Pr : Nat → Prop) (x : Nat) (ws ps : List Int) (vs : List Vt) (p : Int) (w : World) (h : Both w Pr x ws ps vs) :
    Calls Tryz.prog 43 #[.pointer (some ⟨x, 0, none⟩), .int .i64 p] w fun e w' => e = .returned (.bool true) ∧ Both w' Pr x ws (blkP ps p) vs ∧ Chg (fun k => ¬ Pr k) w w' := by
  obtain ⟨b, rb, S, R, hb⟩ := h
  obtain ⟨wv, pv, vv, hC⟩ := hb.court
  obtain ⟨hl0, _⟩ := okW_len hb.okw
  have hx0 := hb.x0
  go_enter Tryz.func43, Tryz.ntmps43
  go_wp2_with fail
  refine (block_at b S ws ps vs wv pv vv p _ hC hb.T hl0).mono ?_
  rintro e w1 ⟨rfl, S', pv', hC1, hc1, hs1⟩
  obtain ⟨hbx, ⟨rwv, rpv, rvv, hR1⟩, hdis, hxS, hlow, hB1⟩ := hb.courtTo hc1 hs1
  have hx1 : w1.cell? ⟨x, 1, none⟩ = some (.pointer (some ⟨rb, 0, none⟩)) := (World.cell?_of_block hbx).trans hb.x1
  clear hx0
  go_wp2_with fail
  refine (refBlock_at rb R ws ps vs rwv rpv rvv p _ hR1 hb.T).mono ?_
  rintro e w2 ⟨rfl, R', rpv', hR2, hc2, hs2⟩
  have hq : (blkN ps p == blkN ps p) = true := by simp
  have hq2 : (blkE ps p == blkE ps p) = true := by simp
  have hltx := hb.ltx
  have hz1 := hc1.size
  have hz2 := hc2.size
  go_wp2_with (go_at_call 42; refine (num_at _ _).mono ?_; rintro e w6 ⟨rfl, rfl⟩)
  go_ret
  refine ⟨by simp, ⟨b, rb, S', R', ?_, ⟨_, _, _, hC1.kept hc2 hdis⟩, ⟨_, _, _, hR2⟩, fun k hk hk' => ?_, hxS, fun hk => ?_, hb.lowx, hlow, fun k hk hp => ?_, fun k hp => ?_, hb.okw, blkP_tree hb.T p, hb.len, hb.okv.blk hb.T p⟩, ?_⟩
  · exact (hc2.block x (by omega) hb.xR).trans (hbx.trans hb.box)
  · rcases hs2 k hk' with h1 | h1
    · exact hdis k hk h1
    · have := hC1.lt k hk; omega
  · rcases hs2 x hk with h1 | h1
    · exact hb.xR h1
    · omega
  · rcases hs2 k hk with h1 | h1
    · exact hb.lowR k h1 hp
    · have := hb.le k hp; omega
  · have := hb.le k hp; omega
  · exact hB1.trans (hc2.mono (fun k _ hk => hb.lowR k hk))

/-- A step of a script, as a value. -/
abbrev opVal (kd k a b c : Int) (wsv : Value) : Value := .agg #[I64 kd, I64 k, I64 a, I64 b, I64 c, wsv]

set_option maxRecDepth 100000 in
set_option maxHeartbeats 2000000 in
theorem voteLaw_at (Pr : Nat → Prop) (x : Nat) (ws ps : List Int) (vs : List Vt) (kd k a b' c : Int) (wsv : Value) (w : World) (h : Both w Pr x ws ps vs) :
    Calls Tryz.prog 44 #[.pointer (some ⟨x, 0, none⟩), opVal kd k a b' c wsv] w fun e w' => e = .returned (.bool true) ∧ Both w' Pr x ws ps (votV ws.length ps vs ⟨a, b', c⟩) ∧ Chg (fun k => ¬ Pr k) w w' := by
  obtain ⟨b, rb, S, R, hb⟩ := h
  obtain ⟨wv, pv, vv, hC⟩ := hb.court
  obtain ⟨hl0, _⟩ := okW_len hb.okw
  have hx0 := hb.x0
  have hx1 := hb.x1
  have hltx := hb.ltx
  go_enter Tryz.func44, Tryz.ntmps44
  go_wp2_with fail
  obtain ⟨W1, hW1⟩ : ∃ W1, w.alloc (.cells #[I64 kd, I64 k, I64 a, I64 b', I64 c, wsv] 34) = W1 := ⟨_, rfl⟩
  have hB1 : Below w.heap.size w W1 := by rw [← hW1]; exact (Below.refl _ _).alloc (Nat.le_refl _) _
  have hs1 : W1.heap.size = w.heap.size + 1 := by rw [← hW1]; simp
  have hh1 : W1.heap[w.heap.size]? = some (.cells #[I64 kd, I64 k, I64 a, I64 b', I64 c, wsv] 34 (0, 0)) := by rw [← hW1]; exact heap_alloc_new w _
  have k2 : W1.cell? ⟨w.heap.size, 2, none⟩ = some (I64 a) := by rw [cell_of_heap hh1]; rfl
  have k3 : W1.cell? ⟨w.heap.size, 3, none⟩ = some (I64 b') := by rw [cell_of_heap hh1]; rfl
  have k4 : W1.cell? ⟨w.heap.size, 4, none⟩ = some (I64 c) := by rw [cell_of_heap hh1]; rfl
  rw [hW1]
  clear hW1 hh1
  have kx0 : W1.cell? ⟨x, 0, none⟩ = some (.pointer (some ⟨b, 0, none⟩)) := (hB1.cell (p := ⟨x, 0, none⟩) hltx).trans hx0
  have kx1 : W1.cell? ⟨x, 1, none⟩ = some (.pointer (some ⟨rb, 0, none⟩)) := (hB1.cell (p := ⟨x, 1, none⟩) hltx).trans hx1
  have hC1 : CourtAt W1.drew b S 0 ws ps vs wv pv vv := hC.kept (Chg.of_below (fun _ => False) hB1.drew) (fun _ _ hf => hf)
  have hnS : ¬ S w.heap.size := fun hk => by have := hC.lt _ hk; omega
  go_region_held3 (fun w' => w'.cell? ⟨x, 0, none⟩ = some (.pointer (some ⟨b, 0, none⟩)) ∧ w'.cell? ⟨x, 1, none⟩ = some (.pointer (some ⟨rb, 0, none⟩)) ∧ w'.cell? ⟨w.heap.size, 2, none⟩ = some (I64 a) ∧ w'.cell? ⟨w.heap.size, 3, none⟩ = some (I64 b') ∧ w'.cell? ⟨w.heap.size, 4, none⟩ = some (I64 c))
    (first | (refine ⟨by assumption, by assumption, by assumption, by assumption, by assumption⟩) | (refine ⟨?_, ?_, ?_, ?_, ?_⟩ <;> simpa))
    ((go_at_call 13; refine (vote_at b S ws ps vs wv pv vv a b' c _ hC1 hb.T hl0 hb.len).mono ?_; rintro e w2 ⟨rfl, S', vv', hC2, hc2, hs2⟩
      have f0 : w2.cell? ⟨x, 0, none⟩ = some (.pointer (some ⟨b, 0, none⟩)) := hc2.cell (w := W1.drew) kx0 hb.xS
      have f1 : w2.cell? ⟨x, 1, none⟩ = some (.pointer (some ⟨rb, 0, none⟩)) := hc2.cell (w := W1.drew) kx1 hb.xS
      have f2 : w2.cell? ⟨w.heap.size, 2, none⟩ = some (I64 a) := hc2.cell (w := W1.drew) k2 hnS
      have f3 : w2.cell? ⟨w.heap.size, 3, none⟩ = some (I64 b') := hc2.cell (w := W1.drew) k3 hnS
      have f4 : w2.cell? ⟨w.heap.size, 4, none⟩ = some (I64 c) := hc2.cell (w := W1.drew) k4 hnS))
  have hz2 : w.heap.size + 1 ≤ w2.heap.size := by have := hc2.size; rw [← hs1]; exact this
  have hcw2 : Chg S w w2 := (Chg.of_below S hB1.drew).trans hc2
  have hsw2 : ∀ k, S' k → S k ∨ w.heap.size ≤ k := fun k hk => (hs2 k hk).imp id (fun hle => Nat.le_trans hB1.size hle)
  obtain ⟨hbx, ⟨rwv, rpv, rvv, hR2⟩, hdis, hxS, hlow, hB2⟩ := hb.courtTo hcw2 hsw2
  have hnR : ¬ R w.heap.size := fun hk => by
    obtain ⟨_, _, _, hR⟩ := hb.doc
    have := hR.lt _ hk; omega
  clear kx0 kx1 k2 k3 k4 hC1 hx0 hx1
  have hR2' : RefAt w2.drew rb R ws ps vs rwv rpv rvv := hR2.kept (Chg.drew (Chg.refl (fun _ => False) _)) (fun _ _ hf => hf)
  go_wp2_with fail
  go_region_held3 (fun w' => w'.cell? ⟨x, 1, none⟩ = some (.pointer (some ⟨rb, 0, none⟩)) ∧ w'.cell? ⟨w.heap.size, 2, none⟩ = some (I64 a) ∧ w'.cell? ⟨w.heap.size, 3, none⟩ = some (I64 b') ∧ w'.cell? ⟨w.heap.size, 4, none⟩ = some (I64 c))
    (first | (refine ⟨by assumption, by assumption, by assumption, by assumption⟩) | (refine ⟨?_, ?_, ?_, ?_⟩ <;> simpa))
    ((go_at_call 74; refine (refVote_at rb R ws ps vs rwv rpv rvv ⟨a, b', c⟩ _ hR2' hb.T hl0 hb.len).mono ?_; rintro e w3 ⟨rfl, R', rvv', hR3, hc3, hs3⟩
      have y1 : w3.cell? ⟨x, 1, none⟩ = some (.pointer (some ⟨rb, 0, none⟩)) := hc3.cell (w := w2.drew) f1 hb.xR
      have y2 : w3.cell? ⟨w.heap.size, 2, none⟩ = some (I64 a) := hc3.cell (w := w2.drew) f2 hnR
      have y3 : w3.cell? ⟨w.heap.size, 3, none⟩ = some (I64 b') := hc3.cell (w := w2.drew) f3 hnR
      have y4 : w3.cell? ⟨w.heap.size, 4, none⟩ = some (I64 c) := hc3.cell (w := w2.drew) f4 hnR))
  have hc3' : Chg R w2 w3 := (Chg.drew (Chg.refl R w2)).trans hc3
  have hq : (votE ws.length ps vs ⟨a, b', c⟩ == votE ws.length ps vs ⟨a, b', c⟩) = true := by simp
  have hz3 := hc3'.size
  go_wp2_with (go_at_call 42; refine (num_at _ _).mono ?_; rintro e w6 ⟨rfl, rfl⟩)
  go_ret
  refine ⟨by simp, ⟨b, rb, S', R', ?_, ⟨_, _, _, hC2.kept hc3' hdis⟩, ⟨_, _, _, hR3⟩, fun k hk hk' => ?_, hxS, fun hk => ?_, hb.lowx, hlow, fun k hk hp => ?_, fun k hp => ?_, hb.okw, hb.T, votV_len hb.len, hb.okv.vot _⟩, ?_⟩
  · exact (hc3'.block x (by omega) hb.xR).trans (hbx.trans hb.box)
  · rcases hs3 k hk' with h1 | h1
    · exact hdis k hk h1
    · have h2 := hC2.lt k hk
      have h3 : w2.heap.size ≤ k := h1
      omega
  · rcases hs3 x hk with h1 | h1
    · exact hb.xR h1
    · have h3 : w2.heap.size ≤ x := h1
      omega
  · rcases hs3 k hk with h1 | h1
    · exact hb.lowR k h1 hp
    · have h3 : w2.heap.size ≤ k := h1
      have := hb.le k hp; omega
  · have := hb.le k hp; omega
  · exact hB2.trans (hc3'.mono (fun k _ hk => hb.lowR k hk))

/-- Both Courts are alike. -/
def Alike2 (w : World) (Pr : Nat → Prop) (x : Nat) (ws : List Int) : Prop := ∃ ps vs, Both w Pr x ws ps vs

theorem BothAt.kept {w w' : World} {Pr : Nat → Prop} {x b rb : Nat} {S R : Nat → Prop} {ws ps : List Int} {vs : List Vt} (hb : BothAt w Pr x b rb S R ws ps vs) (hB : Below w.heap.size w w') : BothAt w' Pr x b rb S R ws ps vs := by
  obtain ⟨wv, pv, vv, hC⟩ := hb.court
  obtain ⟨rwv, rpv, rvv, hR⟩ := hb.doc
  exact ⟨(hB.block x hb.ltx).trans hb.box, ⟨_, _, _, hC.kept (Chg.of_below (fun _ => False) hB) (fun _ _ hf => hf)⟩, ⟨_, _, _, hR.kept (Chg.of_below (fun _ => False) hB) (fun _ _ hf => hf)⟩, hb.dis, hb.xS, hb.xR, hb.lowx, hb.lowS, hb.lowR, fun k hk => Nat.lt_of_lt_of_le (hb.le k hk) hB.size, hb.okw, hb.T, hb.len, hb.okv⟩
theorem Both.kept {w w' : World} {Pr : Nat → Prop} {x : Nat} {ws ps : List Int} {vs : List Vt} (h : Both w Pr x ws ps vs) (hB : Below w.heap.size w w') : Both w' Pr x ws ps vs := by
  obtain ⟨b, rb, S, R, hb⟩ := h
  exact ⟨b, rb, S, R, hb.kept hB⟩

/-- What is new is in none of the Courts' blocks. -/
theorem Both.guard {w : World} {Pr : Nat → Prop} {x : Nat} {ws ps : List Int} {vs : List Vt} (h : Both w Pr x ws ps vs) (o : Obj) : Both (w.alloc o) (fun k => Pr k ∨ k = w.heap.size) x ws ps vs := by
  obtain ⟨b, rb, S, R, hb⟩ := h
  have hb' := hb.kept ((Below.refl _ w).alloc (Nat.le_refl _) o)
  obtain ⟨_, _, _, hC⟩ := hb.court
  obtain ⟨_, _, _, hR⟩ := hb.doc
  refine ⟨b, rb, S, R, hb'.box, hb'.court, hb'.doc, hb'.dis, hb'.xS, hb'.xR, ?_, ?_, ?_, ?_, hb'.okw, hb'.T, hb'.len, hb'.okv⟩
  · rintro (h1 | h1)
    · exact hb.lowx h1
    · have := hb.ltx; omega
  · rintro k hk (h1 | h1)
    · exact hb.lowS k hk h1
    · have := hC.lt k hk; omega
  · rintro k hk (h1 | h1)
    · exact hb.lowR k hk h1
    · have := hR.lt k hk; omega
  · rintro k (h1 | h1)
    · have := hb.le k h1; simp; omega
    · simp; omega

set_option maxHeartbeats 2000000 in
/-- One step of the kinds up to Vote. -/
theorem step_at (Pr : Nat → Prop) (x : Nat) (ws ps : List Int) (vs : List Vt) (kd k a b' c : Int) (wsv : Value) (w : World) (h : Both w Pr x ws ps vs) (hk : kd ≤ 2) :
    Calls Tryz.prog 11 #[.pointer (some ⟨x, 0, none⟩), opVal kd k a b' c wsv] w fun e w' => e = .returned (.bool true) ∧ Alike2 w' Pr x ws ∧ Chg (fun k => ¬ Pr k) w w' := by
  have hB1 : Below w.heap.size w (w.alloc (.cells #[I64 kd, I64 k, I64 a, I64 b', I64 c, wsv] 34)) := (Below.refl _ _).alloc (Nat.le_refl _) _
  have h1 := h.kept hB1
  have hc1 := Chg.of_below (fun k => ¬ Pr k) hB1
  by_cases e1 : kd = 1
  · subst e1
    go_enter Tryz.func11, Tryz.ntmps11
    go_wp2_with fail
    refine (blockLaw_at Pr x ws ps vs a _ h1).mono ?_
    rintro e w2 ⟨rfl, h2, hB2⟩
    go_wp2
    go_ret
    exact ⟨rfl, ⟨_, _, h2⟩, hc1.trans hB2⟩
  by_cases e2 : kd = 2
  · subst e2
    go_enter Tryz.func11, Tryz.ntmps11
    go_wp2_with fail
    refine (voteLaw_at Pr x ws ps vs 2 k a b' c wsv _ h1).mono ?_
    rintro e w2 ⟨rfl, h2, hB2⟩
    go_wp2
    go_ret
    exact ⟨rfl, ⟨_, _, h2⟩, hc1.trans hB2⟩
  · have q1 : (kd == 1) = false := by simpa using e1
    have q2 : (kd == 2) = false := by simpa using e2
    have q3 : (kd == 3) = false := by simp; omega
    have q4 : (kd == 4) = false := by simp; omega
    have q5 : (kd == 5) = false := by simp; omega
    have q6 : (kd == 6) = false := by simp; omega
    clear e1 e2
    go_enter Tryz.func11, Tryz.ntmps11
    go_wp2_with fail
    go_ret
    exact ⟨rfl, ⟨_, _, h1⟩, hc1⟩
end Go.Proofs.YtgebcnnenhgkcaaGreat
