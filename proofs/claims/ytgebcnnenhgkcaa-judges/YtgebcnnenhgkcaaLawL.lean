/- The law Judges. -/
import Derived.Test.YtgebcnnenhgkcaaLawK
namespace Go.Proofs.Ytgebcnnenhgkcaa
open Go.RowKit Go.Shelf

theorem keep_alloc {w : World} {k : Nat} {o : Obj} (h : w.heap[k]? = some o) (o' : Obj) : (w.alloc o').heap[k]? = some o := (Below.heap_alloc _ _ _ (Array.getElem?_eq_some_iff.1 h).1).trans h
theorem next_alloc {w : World} {n : Nat} (hn : w.heap.size = n) (cs : Array Value) (t : TypeId) : (w.alloc (.cells cs t)).heap[n]? = some (.cells cs t (0, 0)) ∧ (w.alloc (.cells cs t)).heap.size = n + 1 ∧ Below n w (w.alloc (.cells cs t)) := by
  subst hn
  exact ⟨heap_alloc_new w _, by simp, (Below.refl _ w).alloc (Nat.le_refl _) _⟩
/-- The law's own lists. -/
def lawW (w : World) : World := (((((((w.alloc (.cells #[I64 0, I64 1] 3)).alloc (.cells #[I64 0, I64 1] 3)).alloc (.cells #[I64 0, I64 1, .slice (some ⟨w.heap.size, 0, none⟩) 2 2, I64 1, I64 3, .slice (some ⟨w.heap.size + 1, 0, none⟩) 2 2] 25)).alloc (.cells #[I64 1, I64 2] 3)).alloc (.cells #[I64 1, I64 2] 3)).alloc (.cells #[I64 0, I64 2, .slice (some ⟨w.heap.size + 1 + 1 + 1, 0, none⟩) 2 2, I64 2, I64 4, .slice (some ⟨w.heap.size + 1 + 1 + 1 + 1, 0, none⟩) 2 2] 25)).alloc (.cells #[I64 1, I64 1, I64 1] 3)).alloc (.cells #[I64 0, I64 0, I64 0, I64 1, I64 2] 3)
def lawX (n : Nat) : List LkV := [(⟨0, 1, [0, 1]⟩, .slice (some ⟨n, 0, none⟩) 2 2), (⟨1, 3, [0, 1]⟩, .slice (some ⟨n + 1, 0, none⟩) 2 2)]
def lawY (n : Nat) : List LkV := [(⟨0, 2, [1, 2]⟩, .slice (some ⟨n + 1 + 1 + 1, 0, none⟩) 2 2), (⟨2, 4, [1, 2]⟩, .slice (some ⟨n + 1 + 1 + 1 + 1, 0, none⟩) 2 2)]
theorem ints_of {w : World} {g : Nat} {xs : List Int} {cs : Array Value} (h : w.heap[g]? = some (.cells cs 3 (0, 0))) (hc : ∀ j, j < xs.length → cs[j]? = some (I64 (xs[j]?.getD 0))) : IntsAt w (some ⟨g, 0, none⟩) xs := .inr ⟨g, 0, rfl, fun j hj => by rw [Nat.zero_add, cell_of_heap h]; exact hc j hj⟩
theorem law_ints {w : World} {g : Nat} {a b : Int} (h : w.heap[g]? = some (.cells #[I64 a, I64 b] 3 (0, 0))) : IntsAt w (some ⟨g, 0, none⟩) [a, b] := ints_of h (fun j hj => by
  match j, hj with
  | 0, _ => rfl
  | 1, _ => rfl
  | k + 2, hk => simp at hk; omega)
theorem law_links {w : World} {g ga gb : Nat} {s t s' t' a b a' b' : Int} (h : w.heap[g]? = some (.cells #[I64 s, I64 t, .slice (some ⟨ga, 0, none⟩) 2 2, I64 s', I64 t', .slice (some ⟨gb, 0, none⟩) 2 2] 25 (0, 0))) (h1 : w.heap[ga]? = some (.cells #[I64 a, I64 b] 3 (0, 0))) (h2 : w.heap[gb]? = some (.cells #[I64 a', I64 b'] 3 (0, 0))) : LkAt w (some ⟨g, 0, none⟩) [(⟨s, t, [a, b]⟩, .slice (some ⟨ga, 0, none⟩) 2 2), (⟨s', t', [a', b']⟩, .slice (some ⟨gb, 0, none⟩) 2 2)] := by
  refine ⟨.inr ⟨g, 0, rfl, fun j x hj => ?_⟩, fun x hx => ?_⟩
  · match j, hj with
    | 0, hj =>
      simp at hj; subst hj
      refine ⟨?_, ?_, ?_⟩ <;> (rw [cell_of_heap h]; rfl)
    | 1, hj =>
      simp at hj; subst hj
      refine ⟨?_, ?_, ?_⟩ <;> (rw [cell_of_heap h]; rfl)
    | k + 2, hj => simp at hj
  · simp at hx
    rcases hx with rfl | rfl
    · exact ⟨_, _, rfl, law_ints h1, by unfold maxLen; simp⟩
    · exact ⟨_, _, rfl, law_ints h2, by unfold maxLen; simp⟩
theorem law_fit {ga gb : Nat} {s t s' t' a b a' b' : Int} : LkFit [(⟨s, t, [a, b]⟩, .slice (some ⟨ga, 0, none⟩) 2 2), (⟨s', t', [a', b']⟩, .slice (some ⟨gb, 0, none⟩) 2 2)] := by
  refine ⟨fun x hx => ?_, by simp⟩
  simp at hx
  rcases hx with rfl | rfl
  · exact ⟨_, _, rfl, fun h => (by cases h), by simp⟩
  · exact ⟨_, _, rfl, fun h => (by cases h), by simp⟩
theorem lawW_at (w : World) : Below w.heap.size w (lawW w) ∧ IntsAt (lawW w) (some ⟨w.heap.size + 1 + 1 + 1 + 1 + 1 + 1, 0, none⟩) [1, 1, 1] ∧ IntsAt (lawW w) (some ⟨w.heap.size + 1 + 1 + 1 + 1 + 1 + 1 + 1, 0, none⟩) [0, 0, 0, 1, 2] ∧ LkAt (lawW w) (some ⟨w.heap.size + 1 + 1, 0, none⟩) (lawX w.heap.size) ∧ LkAt (lawW w) (some ⟨w.heap.size + 1 + 1 + 1 + 1 + 1, 0, none⟩) (lawY w.heap.size) := by
  obtain ⟨n, hn⟩ : ∃ n, w.heap.size = n := ⟨_, rfl⟩
  unfold lawW
  rw [hn]
  obtain ⟨a1, s1, B1⟩ := next_alloc hn #[I64 0, I64 1] 3
  generalize w.alloc (.cells #[I64 0, I64 1] 3) = w1 at a1 s1 B1 ⊢
  obtain ⟨a2, s2, B2⟩ := next_alloc s1 #[I64 0, I64 1] 3
  have a1' := keep_alloc a1 (.cells #[I64 0, I64 1] 3)
  generalize w1.alloc (.cells #[I64 0, I64 1] 3) = w2 at a2 s2 B2 a1' ⊢
  obtain ⟨a3, s3, B3⟩ := next_alloc s2 #[I64 0, I64 1, .slice (some ⟨n, 0, none⟩) 2 2, I64 1, I64 3, .slice (some ⟨n + 1, 0, none⟩) 2 2] 25
  generalize w2.alloc (.cells #[I64 0, I64 1, .slice (some ⟨n, 0, none⟩) 2 2, I64 1, I64 3, .slice (some ⟨n + 1, 0, none⟩) 2 2] 25) = w3 at a3 s3 B3 ⊢
  obtain ⟨a4, s4, B4⟩ := next_alloc s3 #[I64 1, I64 2] 3
  generalize w3.alloc (.cells #[I64 1, I64 2] 3) = w4 at a4 s4 B4 ⊢
  obtain ⟨a5, s5, B5⟩ := next_alloc s4 #[I64 1, I64 2] 3
  generalize w4.alloc (.cells #[I64 1, I64 2] 3) = w5 at a5 s5 B5 ⊢
  obtain ⟨a6, s6, B6⟩ := next_alloc s5 #[I64 0, I64 2, .slice (some ⟨n + 1 + 1 + 1, 0, none⟩) 2 2, I64 2, I64 4, .slice (some ⟨n + 1 + 1 + 1 + 1, 0, none⟩) 2 2] 25
  generalize w5.alloc (.cells #[I64 0, I64 2, .slice (some ⟨n + 1 + 1 + 1, 0, none⟩) 2 2, I64 2, I64 4, .slice (some ⟨n + 1 + 1 + 1 + 1, 0, none⟩) 2 2] 25) = w6 at a6 s6 B6 ⊢
  obtain ⟨a7, s7, B7⟩ := next_alloc s6 #[I64 1, I64 1, I64 1] 3
  generalize w6.alloc (.cells #[I64 1, I64 1, I64 1] 3) = w7 at a7 s7 B7 ⊢
  obtain ⟨a8, s8, B8⟩ := next_alloc s7 #[I64 0, I64 0, I64 0, I64 1, I64 2] 3
  generalize w7.alloc (.cells #[I64 0, I64 0, I64 0, I64 1, I64 2] 3) = w8 at a8 s8 B8 ⊢
  have k7 := (B8.block _ (by omega)).trans a7
  have k6 := (B8.block _ (by omega)).trans ((B7.block _ (by omega)).trans a6)
  have k5 := (B8.block _ (by omega)).trans ((B7.block _ (by omega)).trans ((B6.block _ (by omega)).trans a5))
  have k4 := (B8.block _ (by omega)).trans ((B7.block _ (by omega)).trans ((B6.block _ (by omega)).trans ((B5.block _ (by omega)).trans a4)))
  have k3 := (B8.block _ (by omega)).trans ((B7.block _ (by omega)).trans ((B6.block _ (by omega)).trans ((B5.block _ (by omega)).trans ((B4.block _ (by omega)).trans a3))))
  have k2 := (B8.block _ (by omega)).trans ((B7.block _ (by omega)).trans ((B6.block _ (by omega)).trans ((B5.block _ (by omega)).trans ((B4.block _ (by omega)).trans ((B3.block _ (by omega)).trans a2)))))
  have k1 := (B8.block _ (by omega)).trans ((B7.block _ (by omega)).trans ((B6.block _ (by omega)).trans ((B5.block _ (by omega)).trans ((B4.block _ (by omega)).trans ((B3.block _ (by omega)).trans a1')))))
  refine ⟨?_, ints_of k7 (fun j hj => ?_), ints_of a8 (fun j hj => ?_), law_links k3 k1 k2, law_links k6 k4 k5⟩
  · exact B1.trans ((B2.mono (by omega)).trans ((B3.mono (by omega)).trans ((B4.mono (by omega)).trans ((B5.mono (by omega)).trans ((B6.mono (by omega)).trans ((B7.mono (by omega)).trans (B8.mono (by omega))))))))
  · match j, hj with
    | 0, _ => rfl
    | 1, _ => rfl
    | 2, _ => rfl
    | k + 3, hk => simp at hk; omega
  · match j, hj with
    | 0, _ => rfl
    | 1, _ => rfl
    | 2, _ => rfl
    | 3, _ => rfl
    | 4, _ => rfl
    | k + 5, hk => simp at hk; omega
/-- The law's first verdict: one of weight 1 is guilty. -/
theorem lawG_len : (judgeG [1, 1, 1] [0, 0, 0, 1, 2] [⟨0, 1, [0, 1]⟩, ⟨1, 3, [0, 1]⟩] [⟨0, 2, [1, 2]⟩, ⟨2, 4, [1, 2]⟩]).length = 1 := by kernel_rfl
theorem lawG_sum : guW [1, 1, 1] (judgeG [1, 1, 1] [0, 0, 0, 1, 2] [⟨0, 1, [0, 1]⟩, ⟨1, 3, [0, 1]⟩] [⟨0, 2, [1, 2]⟩, ⟨2, 4, [1, 2]⟩]) = 1 := by kernel_rfl

set_option maxRecDepth 100000 in
set_option maxHeartbeats 8000000 in
theorem judges_at (pw pq p1 p2 : Option Addr) (cw cq c1 c2 : Nat) (ws ps : List Int) (X Y : List LkV) (w : World) (hww : IntsAt w pw ws) (hwn : pw = none → cw = 0 ∧ ws = []) (hwb : (ws.length + 3) * 8 ≤ 140737488355328)
    (hpp : IntsAt w pq ps) (hpn : pq = none → cq = 0 ∧ ps = []) (hpb : (ps.length + 3) * 8 ≤ 140737488355328) (h1 : LkAt w p1 X) (f1 : LkFit X) (h2 : LkAt w p2 Y) (f2 : LkFit Y) :
    Calls Try.prog 3 #[.slice pw ws.length cw, .slice pq ps.length cq, .slice p1 X.length c1, .slice p2 Y.length c2] w fun e w' => e = .returned (.bool true) ∧ Below w.heap.size w w' := by
  have hjd := fun W i1 i2 i3 i4 => judged_at pw pq p1 p2 cw cq c1 c2 ws ps X Y W i1 hwn hwb i2 hpn hpb i3 f1 i4 f2
  have HJD : Hid _ := hjd
  clear hjd hwn hwb hpn hpb f1 f2
  obtain ⟨hBL, hiw, hip, hlx, hly⟩ := lawW_at w
  have hfirst := judged_at _ _ _ _ 3 5 2 2 [1, 1, 1] [0, 0, 0, 1, 2] (lawX w.heap.size) (lawY w.heap.size) (lawW w) hiw (fun h => (by cases h)) (by decide) hip (fun h => (by cases h)) (by decide) hlx law_fit hly law_fit
  have hGl : (judgeG [1, 1, 1] [0, 0, 0, 1, 2] ((lawX w.heap.size).map (fun x => x.1)) ((lawY w.heap.size).map (fun x => x.1))).length = 1 := lawG_len
  have hGs : guW [1, 1, 1] (judgeG [1, 1, 1] [0, 0, 0, 1, 2] ((lawX w.heap.size).map (fun x => x.1)) ((lawY w.heap.size).map (fun x => x.1))) = 1 := lawG_sum
  rw [hGl, hGs] at hfirst
  clear hGl hGs hiw hip hlx hly
  go_enter Try.func3, Try.ntmps3
  go_wp2_with fail
  refine hfirst.mono ?_
  rintro e w1 ⟨⟨v, rfl, hrow⟩, hB1⟩
  clear hfirst
  obtain ⟨pv, cv, hvs⟩ := row_slice hrow
  subst hvs
  have hBw1 : Below w.heap.size w w1 := hBL.trans (hB1.mono hBL.size)
  clear hrow hB1 hBL
  obtain ⟨w2, hw2⟩ : ∃ w2, w1.alloc (.cells #[.slice pv 1 cv, I64 1] 28) = w2 := ⟨_, rfl⟩
  have hBw2 : Below w.heap.size w w2 := by rw [← hw2]; exact hBw1.alloc hBw1.size _
  have hv2 : w2.heap[w1.heap.size]? = some (.cells #[.slice pv 1 cv, I64 1] 28 (0, 0)) := by rw [← hw2]; exact heap_alloc_new w1 _
  obtain ⟨⟨z0, z1⟩, _⟩ := two_cells hv2
  have hs := HJD.out w2 (hww.below' hBw2) (hpp.below' hBw2) (h1.below hBw2) (h2.below hBw2)
  clear HJD hBw1 hv2
  go_wp2_with fail
  refine hs.mono ?_
  rintro e w3 ⟨⟨v', rfl, hrow⟩, hB3⟩
  clear hs hrow
  go_wp2
  go_ret
  exact ⟨rfl, hBw2.trans (hB3.mono hBw2.size)⟩
end Go.Proofs.Ytgebcnnenhgkcaa
