/- The law All: tried: Judge of the proofs of two final blocks of a Court. -/
import Derived.Test.YtgebcnnenhgkcaaGreatB30
namespace Go.Proofs.YtgebcnnenhgkcaaGreat
open Go.RowKit Go.Shelf

theorem finalW_length (ws ps : List Int) (vs : List Vt) : (finalL ws ps vs).length ≤ ps.length := by
  unfold finalL justL justN
  exact Nat.le_trans (List.length_filter_le _ _) (Nat.le_trans (List.length_filter_le _ _) (by simp))
theorem finalW_proof {ws ps : List Int} {vs : List Vt} (hT : Tree ps) (hO : OkV ws.length ps vs) {x er : Int} {L : List Lk} (hx : x ∈ finalL ws ps vs) (hp : ProofOf ws ps vs x er L) : er = 0 ∧ L.length ≤ 40 ∧ ∀ l ∈ L, l.vs.length ≤ ws.length := by
  unfold finalL at hx
  obtain ⟨h1, h2⟩ := List.mem_filter.1 hx
  have hj := mem_justL h1
  have hh : hasB ps.length x = true := by simp [hasB]; omega
  rcases hp with ⟨e, _⟩ | ⟨_, e, _⟩ | ⟨_, ej, c, ec, rfl, rfl⟩
  · rw [hh] at e; cases e
  · rcases e with e | e
    · exfalso
      unfold justL justN at h1
      rw [(List.mem_filter.1 h1).2] at e
      cases e
    · rw [e] at h2; cases h2
  · have hf := proof_fine hT hO hj.1 hj.2.1 ej ec
    refine ⟨rfl, hf.le, fun l hl => ?_⟩
    rw [hf.all l hl, (votersL_perm hO.v l.s l.t).length_eq]; exact onL_length hO l.s l.t
theorem BothAt.recolor {w : World} {Pr : Nat → Prop} {col : Nat → Nat} {i x b rb : Nat} {S R : Nat → Prop} {ws ps : List Int} {vs : List Vt} (h : BothAt w Pr x b rb S R ws ps vs) (hx : col x = 9 + i) (hS : ∀ k, S k → col k = 9 + i) (hR : ∀ k, R k → col k = 9 + i) : BothAt w (fun k => k < w.heap.size ∧ col k ≠ 9 + i) x b rb S R ws ps vs :=
  h.other (fun e => e.2 hx) (fun k hk e => e.2 (hS k hk)) (fun k hk e => e.2 (hR k hk)) (fun _ hk => hk.1)
theorem AllSt.belowC {w0 w w' : World} {col col' : Nat → Nat} {bw : Nat} {C : List (Nat × List Int)} {vc vi vg vl : Value} {I G L : List Value} (h : AllSt w0 w col bw C vc vi vg vl I G L) (hB : Below w.heap.size w w') (hcol : ∀ k, k < w.heap.size → col' k = col k) : AllSt w0 w' col' bw C vc vi vg vl I G L :=
  h.lists (h.ls.kept (Chg.of_below (fun _ => False) hB) (fun _ _ e => e.elim) hcol) (Chg.of_below (fun _ => False) hB) (fun _ _ e => e.elim) hcol
/-- New guilts: their row has its colour. -/
def gcol (n : Nat) (col : Nat → Nat) (v : Value) : Nat → Nat := fun k => if k < n then col k else if v.ownBlock = some k then 7 else 0
theorem gcol_lt {n k : Nat} {col : Nat → Nat} {v : Value} (h : k < n) : gcol n col v k = col k := if_pos h
theorem gcol_row {n k : Nat} {col : Nat → Nat} {v : Value} (h : n ≤ k) (hv : v.ownBlock = some k) : gcol n col v k = 7 := by
  unfold gcol
  rw [if_neg (by omega), if_pos hv]
theorem gcol_not {n k : Nat} {col : Nat → Nat} {v : Value} (h : n ≤ k) (hv : v.ownBlock ≠ some k) : gcol n col v k = 0 := by
  unfold gcol
  rw [if_neg (by omega), if_neg hv]

set_option maxRecDepth 100000 in
set_option maxHeartbeats 16000000 in
theorem tried_at (w0 w : World) (col : Nat → Nat) (bw : Nat) (C : List (Nat × List Int)) (vc vi vg vl : Value) (I G L : List Value) (h : AllSt w0 w col bw C vc vi vg vl I G L) (i x : Nat) (ws : List Int) (hi : C[i]? = some (x, ws)) (kd k a b' c : Int) (wsv : Value)
    (ha : -9223372036854775808 ≤ a ∧ a ≤ 9223372036854775807) (hb' : -9223372036854775808 ≤ b' ∧ b' ≤ 9223372036854775807) (hI : I.length ≤ 999990000) (hG : G.length ≤ 999990000) (hL : L.length ≤ 999990000) :
    Calls Tryz.prog 56 #[.pointer (some ⟨bw, 0, none⟩), .pointer (some ⟨x, 0, none⟩), opVal kd k a b' c wsv] w fun e w' => e = .returned (.bool true) ∧ ∃ col' vi' vg' vl' I' G' L', AllSt w0 w' col' bw C vc vi' vg' vl' I' G' L' ∧ I'.length ≤ I.length + 410 ∧ G'.length ≤ G.length + 10 ∧ L'.length ≤ L.length + 20 := by
  obtain ⟨n0, hn0⟩ : ∃ n0, w.heap.size = n0 := ⟨_, rfl⟩
  obtain ⟨w1, hw1⟩ : ∃ w1, w.alloc (.cells #[I64 kd, I64 k, I64 a, I64 b', I64 c, wsv] 34) = w1 := ⟨_, rfl⟩
  have hB1 : Below w.heap.size w w1 := by rw [← hw1]; exact (Below.refl _ w).alloc (Nat.le_refl _) _
  have ho1 : w1.heap[n0]? = some (.cells #[I64 kd, I64 k, I64 a, I64 b', I64 c, wsv] 34 (0, 0)) := by rw [← hw1, ← hn0]; exact heap_alloc_new w _
  have h1 := h.below hB1 0
  obtain ⟨ps, vs, b, rb, S, R, hb⟩ := h.crt i (x, ws) hi
  have hb1 := hb.keptC (col' := ext w.heap.size col 0) (Chg.of_below (fun _ => False) hB1) (fun _ _ e => e.elim) (fun _ hk => ext_lt hk)
  have hx1 := hb1.x1
  have hW := okWs_of hb.okw
  have hT := hb.T
  have hT2 := hb.T.2.1
  have hlen := hb.len
  have hokv := hb.okv
  obtain ⟨rwv, rpv, rvv, hR1⟩ := hb1.doc
  have hrf := refFinal_at rb R ws ps vs _ _ _ w1 hR1 hb.T hW hb.len hb.okv
  clear hR1
  have hcol1 : ext w.heap.size col 0 n0 = 0 := by rw [← hn0]; exact ext_ge (Nat.le_refl _)
  obtain ⟨col1, hc1e⟩ : ∃ col1, ext w.heap.size col 0 = col1 := ⟨_, rfl⟩
  rw [hc1e] at h1 hb1 hcol1
  clear hc1e
  have hn1 : n0 < w1.heap.size := (Array.getElem?_eq_some_iff.1 ho1).1
  have HO1 : Hid _ := ho1
  clear ho1 hb
  go_enter Tryz.func56, Tryz.ntmps56
  go_wp2_with fail
  try rw [hw1]
  try rw [hn0]
  clear hw1 hn0
  refine hrf.mono ?_
  rintro e w2 ⟨⟨vF, rfl, hrF⟩, hB2⟩
  clear hrf hx1
  have h2 := h1.below hB2 0
  have hb2 := hb1.keptC (col' := ext w1.heap.size col1 0) (Chg.of_below (fun _ => False) hB2) (fun _ _ e => e.elim) (fun _ hk => ext_lt hk)
  have hcn : ext w1.heap.size col1 0 n0 = 0 := by rw [ext_lt hn1]; exact hcol1
  have hcF0 : ∀ g, vF.ownBlock = some g → ext w1.heap.size col1 0 g = 0 := fun g hg => ext_ge (hrF.lt g hg).1
  obtain ⟨col2, hc2e⟩ : ∃ col2, ext w1.heap.size col1 0 = col2 := ⟨_, rfl⟩
  rw [hc2e] at h2 hb2 hcn hcF0
  clear hc2e hb1 h1 h
  have ho2 : w2.heap[n0]? = some (.cells #[I64 kd, I64 k, I64 a, I64 b', I64 c, wsv] 34 (0, 0)) := (hB2.block n0 hn1).trans HO1.out
  have hFl := finalW_length ws ps vs
  obtain ⟨F, hF⟩ : ∃ F, finalL ws ps vs = F := ⟨_, rfl⟩
  rw [hF] at hrF hFl
  have HF : Hid (finalL ws ps vs = F) := hF
  clear hF HO1 hB1 hB2
  obtain ⟨pF, cF, hvF, hFL⟩ := row_intsG hrF
  subst hvF
  by_cases h0 : F.length = 0
  · have h0' : ((F.length : Int) == 0) = true := by rw [h0]; rfl
    go_wp2
    go_ret
    exact ⟨rfl, _, _, _, _, _, _, _, h2, by omega, by omega, by omega⟩
  have h0' : ((F.length : Int) == 0) = false := beq_eq_false_iff_ne.2 (by omega)
  obtain ⟨k1, hl1, hp1⟩ := lawPick_at a F.length (by omega) (by omega) ha
  obtain ⟨k2, hl2, hp2⟩ := lawPick_at b' F.length (by omega) (by omega) hb'
  have hl1' : (k1 : Int) < (F.length : Int) := by omega
  have hl2' : (k2 : Int) < (F.length : Int) := by omega
  rcases hFL with rfl | ⟨gF, oF, hpF, hcF⟩
  · simp at h0
  have hoF : oF = 0 := by
    rcases hrF.2 with ⟨he, _⟩ | ⟨g9, _, _, he, _⟩
    · rw [hpF] at he; cases he
    · rw [hpF] at he
      simp only [Value.slice.injEq, Option.some.injEq, Addr.mk.injEq] at he
      exact he.1.2.1
  subst hoF
  subst hpF
  obtain ⟨xa, hxa⟩ : ∃ xa, F[k1]? = some xa := ⟨_, List.getElem?_eq_getElem hl1⟩
  obtain ⟨xb, hxb⟩ : ∃ xb, F[k2]? = some xb := ⟨_, List.getElem?_eq_getElem hl2⟩
  have hcx : w2.cell? ⟨gF, k1, none⟩ = some (I64 xa) := by have h9 := hcF k1 hl1; rw [hxa, Nat.zero_add] at h9; exact h9
  have hcy2 : w2.cell? ⟨gF, k2, none⟩ = some (I64 xb) := by have h9 := hcF k2 hl2; rw [hxb, Nat.zero_add] at h9; exact h9
  have HXA : Hid (xa ∈ finalL ws ps vs) := by show _ ∈ _; rw [HF.out]; exact List.mem_of_getElem? hxa
  have HXB : Hid (xb ∈ finalL ws ps vs) := by show _ ∈ _; rw [HF.out]; exact List.mem_of_getElem? hxb
  clear hxa hxb hcF
  obtain ⟨hcX, hcS, hcR⟩ := hb2.colored
  have hbS : ¬ S x ∧ ¬ S n0 ∧ ¬ S gF := ⟨hb2.xS, fun e => by have := hcS n0 e; omega, fun e => by have := hcS gF e; have := hcF0 gF rfl; omega⟩
  have q0 := hb2.x0
  have q2 : w2.cell? ⟨n0, 2, none⟩ = some (I64 a) := by rw [cell_of_heap ho2]; rfl
  have q23 : w2.cell? ⟨n0, 3, none⟩ = some (I64 b') := by rw [cell_of_heap ho2]; rfl
  obtain ⟨wv, pv, vv, hC2⟩ := hb2.court
  have hpr1 := proof_at b S ws ps vs wv pv vv xa w2.drew (hC2.kept (Chg.drew (Chg.refl (fun _ => False) w2)) (fun _ _ e => e.elim)) hT hW hlen hokv
  have HH2 : Hid _ := h2
  have HBB2 : Hid _ := hb2
  have HCC : Hid (col2 x = 9 + i ∧ (∀ k, S k → col2 k = 9 + i) ∧ ∀ k, R k → col2 k = 9 + i) := ⟨hcX, hcS, hcR⟩
  clear h2 hb2 hcX hcS hcR hC2 ho2 hrF hcF0
  go_wp2_with fail
  refine wp_region_held_drew (S := fun w' => (w'.cell? ⟨x, 0, none⟩ = some (.pointer (some ⟨b, 0, none⟩)) ∧ w'.cell? ⟨n0, 2, none⟩ = some (I64 a)) ∧ w'.cell? ⟨gF, k1, none⟩ = some (I64 xa)) (by kernel_rfl) ⟨⟨q0, q2⟩, hcx⟩ (fun hHeld => ?_)
  refine takeH (i := 0) (v := ?vv1) rfl (by kernel_rfl) (by kernel_rfl) (by kernel_rfl) (fun _ _ _ h => h) (Or.inl ⟨by rfl, ?hy1⟩) (by assumption) ?rest1
  case hy1 => (intro w hSw; (try dsimp only at hSw); go_simp; try with_reducible rfl)
  try simp only [Act.put, List.setIfInBounds_toArray, List.set_cons_zero, List.set_cons_succ]
  refine takeH (i := 1) (v := ?vv2) rfl (by kernel_rfl) (by kernel_rfl) (by kernel_rfl) (fun _ _ _ h => h) (Or.inl ⟨by rfl, ?hy2⟩) (by assumption) ?rest2
  case hy2 => (intro w hSw; (try dsimp only at hSw); go_simp; try with_reducible rfl)
  try simp only [Act.put, List.setIfInBounds_toArray, List.set_cons_zero, List.set_cons_succ]
  refine takeH (i := 2) (v := ?vv3) rfl (by kernel_rfl) (by kernel_rfl) (by kernel_rfl) (fun _ _ _ h => h) (Or.inl ⟨by rfl, ?hy3⟩) (by assumption) ?rest3
  case hy3 => (intro w hSw; (try dsimp only at hSw); go_simp; try with_reducible rfl)
  try simp only [Act.put, List.setIfInBounds_toArray, List.set_cons_zero, List.set_cons_succ]
  refine takeH (i := 3) (v := ?vv4) rfl (by kernel_rfl) (by kernel_rfl) (by kernel_rfl) (fun _ _ _ h => h) (Or.inl ⟨by rfl, ?hy4⟩) (by assumption) ?rest4
  case hy4 => (intro w hSw; (try dsimp only at hSw); go_simp; try with_reducible rfl)
  try simp only [Act.put, List.setIfInBounds_toArray, List.set_cons_zero, List.set_cons_succ]
  refine takeH (i := 4) (v := ?vv5) rfl (by kernel_rfl) (by kernel_rfl) (by kernel_rfl) (fun _ _ _ h => h) (Or.inl ⟨by rfl, ?hy5⟩) (by assumption) ?rest5
  case hy5 => (intro w hSw; (try dsimp only at hSw); go_simp; try with_reducible rfl)
  try simp only [Act.put, List.setIfInBounds_toArray, List.set_cons_zero, List.set_cons_succ]
  refine takeH (i := 5) (v := ?vv6) rfl (by kernel_rfl) (by kernel_rfl) (by kernel_rfl) (fun _ _ _ h => h) (Or.inl ⟨by rfl, ?hy6⟩) (by assumption) ?rest6
  case hy6 => (intro w hSw; (try dsimp only at hSw); go_simp; try with_reducible rfl)
  try simp only [Act.put, List.setIfInBounds_toArray, List.set_cons_zero, List.set_cons_succ]
  refine takeH (i := 6) (v := ?vv7) rfl (by kernel_rfl) (by kernel_rfl) (by kernel_rfl) (fun _ _ _ h => h) (Or.inl ⟨by rfl, ?hy7⟩) (by assumption) ?rest7
  case hy7 => (intro w hSw; (try dsimp only at hSw); go_simp; try with_reducible rfl)
  try simp only [Act.put, List.setIfInBounds_toArray, List.set_cons_zero, List.set_cons_succ]
  refine takeH (i := 7) (v := ?vv8) rfl (by kernel_rfl) (by kernel_rfl) (by kernel_rfl) (fun _ _ _ h => h) (Or.inl ⟨by rfl, ?hy8⟩) (by assumption) ?rest8
  case hy8 => (intro w hSw; (try dsimp only at hSw); go_simp; try with_reducible rfl)
  try simp only [Act.put, List.setIfInBounds_toArray, List.set_cons_zero, List.set_cons_succ]
  refine takeH (i := 8) (v := ?vv9) rfl (by kernel_rfl) (by kernel_rfl) (by kernel_rfl) (fun _ _ _ h => h) (Or.inl ⟨by rfl, ?hy9⟩) (by assumption) ?rest9
  case hy9 => (intro w hSw; (try dsimp only at hSw); go_simp; try with_reducible rfl)
  try simp only [Act.put, List.setIfInBounds_toArray, List.set_cons_zero, List.set_cons_succ]
  refine doneH (i := 9) rfl (by kernel_rfl) (by rfl) (fun K hK => ?_)
  have HK : Hid _ := hK
  clear hK
  go_simp
  refine (hp1 _).mono ?_
  rintro e w9 ⟨rfl, hw9⟩
  subst hw9
  clear hHeld
  refine HK.out _ _ ⟨⟨q0, q2⟩, hcx⟩ (fun hHeld => ?_)
  clear HK K
  try simp only [Act.put, List.setIfInBounds_toArray, List.set_cons_zero, List.set_cons_succ]
  refine takeH (i := 10) (v := ?vv10) rfl (by kernel_rfl) (by kernel_rfl) (by kernel_rfl) (fun _ _ _ h => h) (Or.inl ⟨by rfl, ?hy10⟩) (by assumption) ?rest10
  case hy10 => (intro w hSw; (try dsimp only at hSw); go_simp; try with_reducible rfl)
  try simp only [Act.put, List.setIfInBounds_toArray, List.set_cons_zero, List.set_cons_succ]
  refine takeH (i := 11) (v := ?vv11) rfl (by kernel_rfl) (by kernel_rfl) (by kernel_rfl) (fun _ _ _ h => h) (Or.inl ⟨by rfl, ?hy11⟩) (by assumption) ?rest11
  case hy11 => (intro w hSw; (try dsimp only at hSw); go_simp; try with_reducible rfl)
  try simp only [Act.put, List.setIfInBounds_toArray, List.set_cons_zero, List.set_cons_succ]
  refine doneH (i := 12) rfl (by kernel_rfl) (by rfl) (fun K hK => ?_)
  have HK : Hid _ := hK
  clear hK
  go_simp
  refine hpr1.mono ?_
  rintro e w3 ⟨⟨va, X, er1, rfl, hLX, hP1⟩, hCw3, hcw3'⟩
  have hcw3 : Chg S w2 w3 := ⟨hcw3'.os, hcw3'.tape, hcw3'.output, hcw3'.size, hcw3'.block⟩
  have es : (w3.cell? ⟨x, 0, none⟩ = some (.pointer (some ⟨b, 0, none⟩)) ∧ w3.cell? ⟨n0, 2, none⟩ = some (I64 a)) ∧ w3.cell? ⟨gF, k1, none⟩ = some (I64 xa) := ⟨⟨hcw3.cell q0 hbS.1, hcw3.cell q2 hbS.2.1⟩, hcw3.cell hcx hbS.2.2⟩
  clear hHeld hpr1
  refine HK.out _ _ es (fun hHeld => ?_)
  clear HK K
  try simp only [Act.put, List.setIfInBounds_toArray, List.set_cons_zero, List.set_cons_succ]
  refine takeH (i := 13) (v := ?vv12) rfl (by kernel_rfl) (by kernel_rfl) (by kernel_rfl) (fun _ _ _ h => h) (Or.inl ⟨by rfl, ?hy12⟩) (by assumption) ?rest12
  case hy12 => (intro w hSw; (try dsimp only at hSw); go_simp; try with_reducible rfl)
  try simp only [Act.put, List.setIfInBounds_toArray, List.set_cons_zero, List.set_cons_succ]
  refine takeH (i := 14) (v := ?vv13) rfl (by kernel_rfl) (by kernel_rfl) (by kernel_rfl) (fun _ _ _ h => h) (Or.inl ⟨by rfl, ?hy13⟩) (by assumption) ?rest13
  case hy13 => (intro w hSw; (try dsimp only at hSw); go_simp; try with_reducible rfl)
  try simp only [Act.put, List.setIfInBounds_toArray, List.set_cons_zero, List.set_cons_succ]
  refine takeH (i := 15) (v := ?vv14) rfl (by kernel_rfl) (by kernel_rfl) (by kernel_rfl) (fun _ _ _ h => h) (Or.inl ⟨by rfl, ?hy14⟩) (by assumption) ?rest14
  case hy14 => (intro w hSw; (try dsimp only at hSw); go_simp; try with_reducible rfl)
  try simp only [Act.put, List.setIfInBounds_toArray, List.set_cons_zero, List.set_cons_succ]
  refine takeH (i := 16) (v := ?vv15) rfl (by kernel_rfl) (by kernel_rfl) (by kernel_rfl) (fun _ _ _ h => h) (Or.inl ⟨by rfl, ?hy15⟩) (by assumption) ?rest15
  case hy15 => (intro w hSw; (try dsimp only at hSw); go_simp; try with_reducible rfl)
  try simp only [Act.put, List.setIfInBounds_toArray, List.set_cons_zero, List.set_cons_succ]
  refine takeH (i := 17) (v := ?vv16) rfl (by kernel_rfl) (by kernel_rfl) (by kernel_rfl) (fun _ _ _ h => h) (Or.inl ⟨by rfl, ?hy16⟩) (by assumption) ?rest16
  case hy16 => (intro w hSw; (try dsimp only at hSw); go_simp; try with_reducible rfl)
  try simp only [Act.put, List.setIfInBounds_toArray, List.set_cons_zero, List.set_cons_succ]
  clear hHeld
  refine wpAnyH_done (by kernel_rfl) ?_ _
  clear es hp1
  obtain ⟨rfl, hXl, hXv⟩ := finalW_proof hT hokv HXA.out hP1
  have hXn : X.length ≤ 40 := by simpa using hXl
  have hw12 := hW.le
  have hXv' : ∀ z ∈ X, z.1.vs.length ≤ 12 := fun z hz => Nat.le_trans (hXv z.1 (List.mem_map.2 ⟨z, hz, rfl⟩)) hw12
  clear hP1 hXl hXv
  have hb3 := HBB2.out.same hCw3 hcw3
  have hSl : ∀ k, S k → k < w2.heap.size := fun k hk => HBB2.out.ltS hk
  have h3 := HH2.out.called (col' := lcol w2.heap.size col2 va) hi HBB2.out rfl hb3 (hcw3.mono (fun k _ hk e => e.2 (HCC.out.2.1 k hk))) (fun k hk => lcol_lt hk)
  have hb3' := hb3.recolor (col := lcol w2.heap.size col2 va) (i := i) (by rw [lcol_lt HBB2.out.ltx]; exact HCC.out.1) (fun k hk => by rw [lcol_lt (hSl k hk)]; exact HCC.out.2.1 k hk) (fun k hk => by rw [lcol_lt (HBB2.out.ltR hk)]; exact HCC.out.2.2 k hk)
  have hcy := hcw3.cell hcy2 hbS.2.2
  have q2' := hcw3.cell q23 hbS.2.1
  have q0' := hb3'.x0
  clear q0 q2 q23 hcx hcy2 hb3
  have q0 := q0'
  have q2 := q2'
  clear q0' q2'
  obtain ⟨wv3, pv3, vv3, hC3⟩ := hb3'.court
  have hpr2 := proof_at b S ws ps vs wv3 pv3 vv3 xb w3.drew (hC3.kept (Chg.drew (Chg.refl (fun _ => False) w3)) (fun _ _ e => e.elim)) hT hW hlen hokv
  have HH3 : Hid _ := h3
  have HBB3 : Hid _ := hb3'
  have HLX : Hid (LinksAt w3 w2.heap.size va X) := hLX
  obtain ⟨pX, cX, hvX, _, _⟩ := hLX.lk
  subst hvX
  clear h3 hb3' hC3 hLX hCw3 hcw3'
  go_wp2_with fail
  refine wp_region_held_drew (S := fun w' => (w'.cell? ⟨x, 0, none⟩ = some (.pointer (some ⟨b, 0, none⟩)) ∧ w'.cell? ⟨n0, 3, none⟩ = some (I64 b')) ∧ w'.cell? ⟨gF, k2, none⟩ = some (I64 xb)) (by kernel_rfl) ⟨⟨q0, q2⟩, hcy⟩ (fun hHeld => ?_)
  refine takeH (i := 0) (v := ?vv17) rfl (by kernel_rfl) (by kernel_rfl) (by kernel_rfl) (fun _ _ _ h => h) (Or.inl ⟨by rfl, ?hy17⟩) (by assumption) ?rest17
  case hy17 => (intro w hSw; (try dsimp only at hSw); go_simp; try with_reducible rfl)
  try simp only [Act.put, List.setIfInBounds_toArray, List.set_cons_zero, List.set_cons_succ]
  refine takeH (i := 1) (v := ?vv18) rfl (by kernel_rfl) (by kernel_rfl) (by kernel_rfl) (fun _ _ _ h => h) (Or.inl ⟨by rfl, ?hy18⟩) (by assumption) ?rest18
  case hy18 => (intro w hSw; (try dsimp only at hSw); go_simp; try with_reducible rfl)
  try simp only [Act.put, List.setIfInBounds_toArray, List.set_cons_zero, List.set_cons_succ]
  refine takeH (i := 2) (v := ?vv19) rfl (by kernel_rfl) (by kernel_rfl) (by kernel_rfl) (fun _ _ _ h => h) (Or.inl ⟨by rfl, ?hy19⟩) (by assumption) ?rest19
  case hy19 => (intro w hSw; (try dsimp only at hSw); go_simp; try with_reducible rfl)
  try simp only [Act.put, List.setIfInBounds_toArray, List.set_cons_zero, List.set_cons_succ]
  refine takeH (i := 3) (v := ?vv20) rfl (by kernel_rfl) (by kernel_rfl) (by kernel_rfl) (fun _ _ _ h => h) (Or.inl ⟨by rfl, ?hy20⟩) (by assumption) ?rest20
  case hy20 => (intro w hSw; (try dsimp only at hSw); go_simp; try with_reducible rfl)
  try simp only [Act.put, List.setIfInBounds_toArray, List.set_cons_zero, List.set_cons_succ]
  refine takeH (i := 4) (v := ?vv21) rfl (by kernel_rfl) (by kernel_rfl) (by kernel_rfl) (fun _ _ _ h => h) (Or.inl ⟨by rfl, ?hy21⟩) (by assumption) ?rest21
  case hy21 => (intro w hSw; (try dsimp only at hSw); go_simp; try with_reducible rfl)
  try simp only [Act.put, List.setIfInBounds_toArray, List.set_cons_zero, List.set_cons_succ]
  refine takeH (i := 5) (v := ?vv22) rfl (by kernel_rfl) (by kernel_rfl) (by kernel_rfl) (fun _ _ _ h => h) (Or.inl ⟨by rfl, ?hy22⟩) (by assumption) ?rest22
  case hy22 => (intro w hSw; (try dsimp only at hSw); go_simp; try with_reducible rfl)
  try simp only [Act.put, List.setIfInBounds_toArray, List.set_cons_zero, List.set_cons_succ]
  refine takeH (i := 6) (v := ?vv23) rfl (by kernel_rfl) (by kernel_rfl) (by kernel_rfl) (fun _ _ _ h => h) (Or.inl ⟨by rfl, ?hy23⟩) (by assumption) ?rest23
  case hy23 => (intro w hSw; (try dsimp only at hSw); go_simp; try with_reducible rfl)
  try simp only [Act.put, List.setIfInBounds_toArray, List.set_cons_zero, List.set_cons_succ]
  refine takeH (i := 7) (v := ?vv24) rfl (by kernel_rfl) (by kernel_rfl) (by kernel_rfl) (fun _ _ _ h => h) (Or.inl ⟨by rfl, ?hy24⟩) (by assumption) ?rest24
  case hy24 => (intro w hSw; (try dsimp only at hSw); go_simp; try with_reducible rfl)
  try simp only [Act.put, List.setIfInBounds_toArray, List.set_cons_zero, List.set_cons_succ]
  refine takeH (i := 8) (v := ?vv25) rfl (by kernel_rfl) (by kernel_rfl) (by kernel_rfl) (fun _ _ _ h => h) (Or.inl ⟨by rfl, ?hy25⟩) (by assumption) ?rest25
  case hy25 => (intro w hSw; (try dsimp only at hSw); go_simp; try with_reducible rfl)
  try simp only [Act.put, List.setIfInBounds_toArray, List.set_cons_zero, List.set_cons_succ]
  refine doneH (i := 9) rfl (by kernel_rfl) (by rfl) (fun K hK => ?_)
  have HK : Hid _ := hK
  clear hK
  go_simp
  refine (hp2 _).mono ?_
  rintro e w9 ⟨rfl, hw9⟩
  subst hw9
  clear hHeld
  refine HK.out _ _ ⟨⟨q0, q2⟩, hcy⟩ (fun hHeld => ?_)
  clear HK K
  try simp only [Act.put, List.setIfInBounds_toArray, List.set_cons_zero, List.set_cons_succ]
  refine takeH (i := 10) (v := ?vv26) rfl (by kernel_rfl) (by kernel_rfl) (by kernel_rfl) (fun _ _ _ h => h) (Or.inl ⟨by rfl, ?hy26⟩) (by assumption) ?rest26
  case hy26 => (intro w hSw; (try dsimp only at hSw); go_simp; try with_reducible rfl)
  try simp only [Act.put, List.setIfInBounds_toArray, List.set_cons_zero, List.set_cons_succ]
  refine takeH (i := 11) (v := ?vv27) rfl (by kernel_rfl) (by kernel_rfl) (by kernel_rfl) (fun _ _ _ h => h) (Or.inl ⟨by rfl, ?hy27⟩) (by assumption) ?rest27
  case hy27 => (intro w hSw; (try dsimp only at hSw); go_simp; try with_reducible rfl)
  try simp only [Act.put, List.setIfInBounds_toArray, List.set_cons_zero, List.set_cons_succ]
  refine doneH (i := 12) rfl (by kernel_rfl) (by rfl) (fun K hK => ?_)
  have HK : Hid _ := hK
  clear hK
  go_simp
  refine hpr2.mono ?_
  rintro e w4 ⟨⟨vb, Y, er2, rfl, hLY, hP2⟩, hCw4, hcw4'⟩
  have hcw4 : Chg S w3 w4 := ⟨hcw4'.os, hcw4'.tape, hcw4'.output, hcw4'.size, hcw4'.block⟩
  have es : (w4.cell? ⟨x, 0, none⟩ = some (.pointer (some ⟨b, 0, none⟩)) ∧ w4.cell? ⟨n0, 3, none⟩ = some (I64 b')) ∧ w4.cell? ⟨gF, k2, none⟩ = some (I64 xb) := ⟨⟨hcw4.cell q0 hbS.1, hcw4.cell q2 hbS.2.1⟩, hcw4.cell hcy hbS.2.2⟩
  clear hHeld hpr2
  refine HK.out _ _ es (fun hHeld => ?_)
  clear HK K
  try simp only [Act.put, List.setIfInBounds_toArray, List.set_cons_zero, List.set_cons_succ]
  refine takeH (i := 13) (v := ?vv28) rfl (by kernel_rfl) (by kernel_rfl) (by kernel_rfl) (fun _ _ _ h => h) (Or.inl ⟨by rfl, ?hy28⟩) (by assumption) ?rest28
  case hy28 => (intro w hSw; (try dsimp only at hSw); go_simp; try with_reducible rfl)
  try simp only [Act.put, List.setIfInBounds_toArray, List.set_cons_zero, List.set_cons_succ]
  refine takeH (i := 14) (v := ?vv29) rfl (by kernel_rfl) (by kernel_rfl) (by kernel_rfl) (fun _ _ _ h => h) (Or.inl ⟨by rfl, ?hy29⟩) (by assumption) ?rest29
  case hy29 => (intro w hSw; (try dsimp only at hSw); go_simp; try with_reducible rfl)
  try simp only [Act.put, List.setIfInBounds_toArray, List.set_cons_zero, List.set_cons_succ]
  refine takeH (i := 15) (v := ?vv30) rfl (by kernel_rfl) (by kernel_rfl) (by kernel_rfl) (fun _ _ _ h => h) (Or.inl ⟨by rfl, ?hy30⟩) (by assumption) ?rest30
  case hy30 => (intro w hSw; (try dsimp only at hSw); go_simp; try with_reducible rfl)
  try simp only [Act.put, List.setIfInBounds_toArray, List.set_cons_zero, List.set_cons_succ]
  refine takeH (i := 16) (v := ?vv31) rfl (by kernel_rfl) (by kernel_rfl) (by kernel_rfl) (fun _ _ _ h => h) (Or.inl ⟨by rfl, ?hy31⟩) (by assumption) ?rest31
  case hy31 => (intro w hSw; (try dsimp only at hSw); go_simp; try with_reducible rfl)
  try simp only [Act.put, List.setIfInBounds_toArray, List.set_cons_zero, List.set_cons_succ]
  refine takeH (i := 17) (v := ?vv32) rfl (by kernel_rfl) (by kernel_rfl) (by kernel_rfl) (fun _ _ _ h => h) (Or.inl ⟨by rfl, ?hy32⟩) (by assumption) ?rest32
  case hy32 => (intro w hSw; (try dsimp only at hSw); go_simp; try with_reducible rfl)
  try simp only [Act.put, List.setIfInBounds_toArray, List.set_cons_zero, List.set_cons_succ]
  clear hHeld
  refine wpAnyH_done (by kernel_rfl) ?_ _
  clear es hp2
  obtain ⟨rfl, hYl, hYv⟩ := finalW_proof hT hokv HXB.out hP2
  have hYn : Y.length ≤ 40 := by simpa using hYl
  have hYv' : ∀ z ∈ Y, z.1.vs.length ≤ 12 := fun z hz => Nat.le_trans (hYv z.1 (List.mem_map.2 ⟨z, hz, rfl⟩)) hw12
  clear hP2 hYl hYv
  have hb4 := HBB3.out.same hCw4 hcw4
  obtain ⟨va, hvae⟩ : ∃ va, Value.slice pX X.length cX = va := ⟨_, rfl⟩
  have HVA : Hid (Value.slice pX X.length cX = va) := hvae
  rw [hvae] at HH3 HBB3 hb4 HLX
  have h4 := HH3.out.called (col' := lcol w3.heap.size (lcol w2.heap.size col2 va) vb) hi HBB3.out rfl hb4 (hcw4.mono (fun k _ hk e => e.2 (HBB3.out.colored.2.1 k hk))) (fun k hk => lcol_lt hk)
  have hb4' := hb4.recolor (col := lcol w3.heap.size (lcol w2.heap.size col2 va) vb) (i := i) (by rw [lcol_lt HBB3.out.ltx]; exact HBB3.out.colored.1) (fun k hk => by rw [lcol_lt (HBB3.out.ltS hk)]; exact HBB3.out.colored.2.1 k hk) (fun k hk => by rw [lcol_lt (HBB3.out.ltR hk)]; exact HBB3.out.colored.2.2 k hk)
  have hz23 : w2.heap.size ≤ w3.heap.size := hcw3.size
  have hz34 : w3.heap.size ≤ w4.heap.size := hcw4.size
  have hLX4 : LinksAt w4 w2.heap.size va X := HLX.out.kept hcw4 (fun k hk e => by have := (HLX.out.row.lt k hk).1; have := hSl k e; omega) (fun z hz k hk e => by have := ((HLX.out.each z hz).lt k hk).1; have := hSl k e; omega)
  have hLY3 : LinksAt w4 w3.heap.size vb Y := hLY
  have HXB1 : Hid (∀ k, (va.ownBlock = some k ∨ ∃ z ∈ X, z.2.ownBlock = some k) → w2.heap.size ≤ k ∧ k < w3.heap.size) := fun k hk => by
    rcases hk with hk | ⟨z, hz, hk⟩
    · exact HLX.out.row.lt k hk
    · exact (HLX.out.each z hz).lt k hk
  have HYB1 : Hid (∀ k, (vb.ownBlock = some k ∨ ∃ z ∈ Y, z.2.ownBlock = some k) → w3.heap.size ≤ k ∧ k < w4.heap.size) := fun k hk => by
    rcases hk with hk | ⟨z, hz, hk⟩
    · exact hLY3.row.lt k hk
    · exact (hLY3.each z hz).lt k hk
  have hx1 := hb4'.x1
  obtain ⟨rwv4, rpv4, rvv4, hR4⟩ := hb4'.doc
  have r0 := hR4.c0
  have r1 := hR4.c1
  obtain ⟨gw, cw, rfl, _, _, hcgw, _⟩ := row_open hR4.wrow hW.pos
  obtain ⟨gp, cp, rfl, _, _, hcgp, _⟩ := row_open hR4.prow hT.1
  have hxl : x < w4.heap.size := hb4'.ltx
  have hrl : rb < w4.heap.size := hR4.lt rb hR4.inb
  obtain ⟨pX', cX', hvX', hkX, _⟩ := hLX4.lk
  rw [← hvae] at hvX'
  simp only [Value.slice.injEq, true_and] at hvX'
  obtain ⟨rfl, rfl⟩ := hvX'
  obtain ⟨pY, cY, hvY, hkY, _⟩ := hLY3.lk
  have HVB : Hid (vb = .slice pY Y.length cY) := hvY
  have hfX := links_fit hLX4 hXn hXv'
  have hfY := links_fit hLY3 hYn hYv'
  obtain ⟨GG, hGG⟩ : ∃ GG, judgeG ws ps (X.map (fun z => z.1)) (Y.map (fun z => z.1)) = GG := ⟨_, rfl⟩
  have hGl : GG.length ≤ 12 := by rw [← hGG]; exact judgeG_length _ _ _ _
  obtain ⟨kk, hkk⟩ : ∃ kk, guW ws GG = kk := ⟨_, rfl⟩
  have HJD : Hid (∀ W, Below w4.heap.size w4 W → Calls Tryz.prog 94 #[.slice (some ⟨gw, 0, none⟩) ws.length cw, .slice (some ⟨gp, 0, none⟩) ps.length cp, .slice pX X.length cX, .slice pY Y.length cY] W fun e w' => (∃ v, e = .returned (.tuple #[.agg #[v, .int .i64 kk], .bool true]) ∧ w'.ownsRow W.heap.size 84 8 v GG.length (guRow GG)) ∧ Below W.heap.size W w') := fun W hBW => by
    have h9 := judged_at (some ⟨gw, 0, none⟩) (some ⟨gp, 0, none⟩) pX pY cw cp cX cY ws ps X Y W (.inr ⟨gw, 0, rfl, fun j hj => by rw [Nat.zero_add]; exact (hBW.cell (p := ⟨gw, j, none⟩) (World.block_lt_of_cell? w4 _ (hcgw j hj))).trans (hcgw j hj)⟩) (fun e => (by cases e)) (by omega)
      (.inr ⟨gp, 0, rfl, fun j hj => by rw [Nat.zero_add]; exact (hBW.cell (p := ⟨gp, j, none⟩) (World.block_lt_of_cell? w4 _ (hcgp j hj))).trans (hcgp j hj)⟩) (fun e => (by cases e)) (by omega) (hkX.below hBW) hfX (hkY.below hBW) hfY
    rw [hGG, hkk] at h9
    exact h9
  have e4 : (w4.cell? ⟨x, 1, none⟩ = some (.pointer (some ⟨rb, 0, none⟩)) ∧ w4.cell? ⟨rb, 0, none⟩ = some (.slice (some ⟨gw, 0, none⟩) ws.length cw)) ∧ w4.cell? ⟨rb, 1, none⟩ = some (.slice (some ⟨gp, 0, none⟩) ps.length cp) := ⟨⟨hx1, r0⟩, r1⟩
  have HH4 : Hid _ := h4
  have HL4 : Hid (LinksAt w4 w2.heap.size va X ∧ LinksAt w4 w3.heap.size vb Y ∧ LinksAt w3 w2.heap.size va X) := ⟨hLX4, hLY3, HLX.out⟩
  have HXV : Hid ((∀ z ∈ X, z.1.vs.length ≤ 12) ∧ ∀ z ∈ Y, z.1.vs.length ≤ 12) := ⟨hXv', hYv'⟩
  clear hx1 r0 r1 hcgw hcgp hkX hkY hfX hfY hGG hkk h4 hLX4 hLY3 hLY hb4 hb4' hR4 hCw4 hcw4' hXv' hYv' hvae HLX q0 q2 hcy
  rw [hvY]
  clear hvY
  go_wp2_with (go_at_call 42; refine (num_at _ _).mono ?_; rintro e w9 ⟨rfl, hw9⟩; rw [hw9]; clear hw9)
  refine wp_region_held_drew (S := fun w' => (w'.cell? ⟨x, 1, none⟩ = some (.pointer (some ⟨rb, 0, none⟩)) ∧ w'.cell? ⟨rb, 0, none⟩ = some (.slice (some ⟨gw, 0, none⟩) ws.length cw)) ∧ w'.cell? ⟨rb, 1, none⟩ = some (.slice (some ⟨gp, 0, none⟩) ps.length cp)) (by kernel_rfl) e4 (fun hHeld => ?_)
  refine takeH (i := 0) (v := ?vv33) rfl (by kernel_rfl) (by kernel_rfl) (by kernel_rfl) (fun _ _ _ h => h) (Or.inl ⟨by rfl, ?hy33⟩) (by assumption) ?rest33
  case hy33 => (intro w hSw; (try dsimp only at hSw); go_simp; try with_reducible rfl)
  try simp only [Act.put, List.setIfInBounds_toArray, List.set_cons_zero, List.set_cons_succ]
  refine takeH (i := 1) (v := ?vv34) rfl (by kernel_rfl) (by kernel_rfl) (by kernel_rfl) (fun _ _ _ h => h) (Or.inl ⟨by rfl, ?hy34⟩) (by assumption) ?rest34
  case hy34 => (intro w hSw; (try dsimp only at hSw); go_simp; try with_reducible rfl)
  try simp only [Act.put, List.setIfInBounds_toArray, List.set_cons_zero, List.set_cons_succ]
  refine takeH (i := 2) (v := ?vv35) rfl (by kernel_rfl) (by kernel_rfl) (by kernel_rfl) (fun _ _ _ h => h) (Or.inl ⟨by rfl, ?hy35⟩) (by assumption) ?rest35
  case hy35 => (intro w hSw; (try dsimp only at hSw); go_simp; try with_reducible rfl)
  try simp only [Act.put, List.setIfInBounds_toArray, List.set_cons_zero, List.set_cons_succ]
  refine takeH (i := 3) (v := ?vv36) rfl (by kernel_rfl) (by kernel_rfl) (by kernel_rfl) (fun _ _ _ h => h) (Or.inl ⟨by rfl, ?hy36⟩) (by assumption) ?rest36
  case hy36 => (intro w hSw; (try dsimp only at hSw); go_simp; try with_reducible rfl)
  try simp only [Act.put, List.setIfInBounds_toArray, List.set_cons_zero, List.set_cons_succ]
  refine takeH (i := 4) (v := ?vv37) rfl (by kernel_rfl) (by kernel_rfl) (by kernel_rfl) (fun _ _ _ h => h) (Or.inl ⟨by rfl, ?hy37⟩) (by assumption) ?rest37
  case hy37 => (intro w hSw; (try dsimp only at hSw); go_simp; try with_reducible rfl)
  try simp only [Act.put, List.setIfInBounds_toArray, List.set_cons_zero, List.set_cons_succ]
  refine takeH (i := 5) (v := ?vv38) rfl (by kernel_rfl) (by kernel_rfl) (by kernel_rfl) (fun _ _ _ h => h) (Or.inl ⟨by rfl, ?hy38⟩) (by assumption) ?rest38
  case hy38 => (intro w hSw; (try dsimp only at hSw); go_simp; try with_reducible rfl)
  try simp only [Act.put, List.setIfInBounds_toArray, List.set_cons_zero, List.set_cons_succ]
  refine takeH (i := 6) (v := ?vv39) rfl (by kernel_rfl) (by kernel_rfl) (by kernel_rfl) (fun _ _ _ h => h) (Or.inl ⟨by rfl, ?hy39⟩) (by assumption) ?rest39
  case hy39 => (intro w hSw; (try dsimp only at hSw); go_simp; try with_reducible rfl)
  try simp only [Act.put, List.setIfInBounds_toArray, List.set_cons_zero, List.set_cons_succ]
  refine takeH (i := 7) (v := ?vv40) rfl (by kernel_rfl) (by kernel_rfl) (by kernel_rfl) (fun _ _ _ h => h) (Or.inl ⟨by rfl, ?hy40⟩) (by assumption) ?rest40
  case hy40 => (intro w hSw; (try dsimp only at hSw); go_simp; try with_reducible rfl)
  try simp only [Act.put, List.setIfInBounds_toArray, List.set_cons_zero, List.set_cons_succ]
  refine takeH (i := 8) (v := ?vv41) rfl (by kernel_rfl) (by kernel_rfl) (by kernel_rfl) (fun _ _ _ h => h) (Or.inl ⟨by rfl, ?hy41⟩) (by assumption) ?rest41
  case hy41 => (intro w hSw; (try dsimp only at hSw); go_simp; try with_reducible rfl)
  try simp only [Act.put, List.setIfInBounds_toArray, List.set_cons_zero, List.set_cons_succ]
  refine takeH (i := 9) (v := ?vv42) rfl (by kernel_rfl) (by kernel_rfl) (by kernel_rfl) (fun _ _ _ h => h) (Or.inl ⟨by rfl, ?hy42⟩) (by assumption) ?rest42
  case hy42 => (intro w hSw; (try dsimp only at hSw); go_simp; try with_reducible rfl)
  try simp only [Act.put, List.setIfInBounds_toArray, List.set_cons_zero, List.set_cons_succ]
  refine takeH (i := 10) (v := ?vv43) rfl (by kernel_rfl) (by kernel_rfl) (by kernel_rfl) (fun _ _ _ h => h) (Or.inl ⟨by rfl, ?hy43⟩) (by assumption) ?rest43
  case hy43 => (intro w hSw; (try dsimp only at hSw); go_simp; try with_reducible rfl)
  try simp only [Act.put, List.setIfInBounds_toArray, List.set_cons_zero, List.set_cons_succ]
  refine takeH (i := 11) (v := ?vv44) rfl (by kernel_rfl) (by kernel_rfl) (by kernel_rfl) (fun _ _ _ h => h) (Or.inl ⟨by rfl, ?hy44⟩) (by assumption) ?rest44
  case hy44 => (intro w hSw; (try dsimp only at hSw); go_simp; try with_reducible rfl)
  try simp only [Act.put, List.setIfInBounds_toArray, List.set_cons_zero, List.set_cons_succ]
  refine takeH (i := 12) (v := ?vv45) rfl (by kernel_rfl) (by kernel_rfl) (by kernel_rfl) (fun _ _ _ h => h) (Or.inl ⟨by rfl, ?hy45⟩) (by assumption) ?rest45
  case hy45 => (intro w hSw; (try dsimp only at hSw); go_simp; try with_reducible rfl)
  try simp only [Act.put, List.setIfInBounds_toArray, List.set_cons_zero, List.set_cons_succ]
  refine takeH (i := 13) (v := ?vv46) rfl (by kernel_rfl) (by kernel_rfl) (by kernel_rfl) (fun _ _ _ h => h) (Or.inl ⟨by rfl, ?hy46⟩) (by assumption) ?rest46
  case hy46 => (intro w hSw; (try dsimp only at hSw); go_simp; try with_reducible rfl)
  try simp only [Act.put, List.setIfInBounds_toArray, List.set_cons_zero, List.set_cons_succ]
  refine takeH (i := 14) (v := ?vv47) rfl (by kernel_rfl) (by kernel_rfl) (by kernel_rfl) (fun _ _ _ h => h) (Or.inl ⟨by rfl, ?hy47⟩) (by assumption) ?rest47
  case hy47 => (intro w hSw; (try dsimp only at hSw); go_simp; try with_reducible rfl)
  try simp only [Act.put, List.setIfInBounds_toArray, List.set_cons_zero, List.set_cons_succ]
  refine takeH (i := 15) (v := ?vv48) rfl (by kernel_rfl) (by kernel_rfl) (by kernel_rfl) (fun _ _ _ h => h) (Or.inl ⟨by rfl, ?hy48⟩) (by assumption) ?rest48
  case hy48 => (intro w hSw; (try dsimp only at hSw); go_simp; try with_reducible rfl)
  try simp only [Act.put, List.setIfInBounds_toArray, List.set_cons_zero, List.set_cons_succ]
  refine wpAnyH_ready (rs := [16, 20]) (by kernel_rfl) (by simp) ?_
  refine AllReadyH.cons (nthO_at rfl) (fun K hK => ?_) ?_
  · rw [if_pos (by rfl)]
    have HK : Hid _ := hK.out
    clear hK hHeld
    go_simp
    refine (HJD.out w4.drew (Below.refl _ w4).drew).mono ?_
    rintro e W2 ⟨⟨v, rfl, hrow⟩, hBW2⟩
    clear HJD
    obtain ⟨pv9, cv9, hvs⟩ := row_slice hrow
    subst hvs
    have hB52 : Below w4.heap.size w4 W2 := (Below.refl _ w4).drew.trans hBW2
    have hrow5 : W2.ownsRow w4.heap.size 84 8 (.slice pv9 GG.length cv9) GG.length (guRow GG) := hrow
    have e5 : (W2.cell? ⟨x, 1, none⟩ = some (.pointer (some ⟨rb, 0, none⟩)) ∧ W2.cell? ⟨rb, 0, none⟩ = some (.slice (some ⟨gw, 0, none⟩) ws.length cw)) ∧ W2.cell? ⟨rb, 1, none⟩ = some (.slice (some ⟨gp, 0, none⟩) ps.length cp) := ⟨⟨(hB52.cell (p := ⟨x, 1, none⟩) hxl).trans e4.1.1, (hB52.cell (p := ⟨rb, 0, none⟩) hrl).trans e4.1.2⟩, (hB52.cell (p := ⟨rb, 1, none⟩) hrl).trans e4.2⟩
    clear hBW2 hrow
    refine HK.out _ _ e5 (fun hHeld => ?_)
    clear HK K
    try simp only [Act.put, List.setIfInBounds_toArray, List.set_cons_zero, List.set_cons_succ]
    refine takeH (i := 17) (v := ?vv49) rfl (by kernel_rfl) (by kernel_rfl) (by kernel_rfl) (fun _ _ _ h => h) (Or.inl ⟨by rfl, ?hy49⟩) (by assumption) ?rest49
    case hy49 => (intro w hSw; (try dsimp only at hSw); go_simp; try with_reducible rfl)
    try simp only [Act.put, List.setIfInBounds_toArray, List.set_cons_zero, List.set_cons_succ]
    refine takeH (i := 18) (v := ?vv50) rfl (by kernel_rfl) (by kernel_rfl) (by kernel_rfl) (fun _ _ _ h => h) (Or.inl ⟨by rfl, ?hy50⟩) (by assumption) ?rest50
    case hy50 => (intro w hSw; (try dsimp only at hSw); go_simp; try with_reducible rfl)
    try simp only [Act.put, List.setIfInBounds_toArray, List.set_cons_zero, List.set_cons_succ]
    refine takeH (i := 19) (v := ?vv51) rfl (by kernel_rfl) (by kernel_rfl) (by kernel_rfl) (fun _ _ _ h => h) (Or.inl ⟨by rfl, ?hy51⟩) (by assumption) ?rest51
    case hy51 => (intro w hSw; (try dsimp only at hSw); go_simp; try with_reducible rfl)
    try simp only [Act.put, List.setIfInBounds_toArray, List.set_cons_zero, List.set_cons_succ]
    refine doneH (i := 20) rfl (by kernel_rfl) (by rfl) (fun K hK => ?_)
    have HK : Hid _ := hK
    clear hK
    go_simp
    obtain ⟨V, hV⟩ : ∃ V, W2.alloc (.cells #[.slice none 0 0, I64 0] 74) = V := ⟨_, rfl⟩
    have hVo : V.heap[W2.heap.size]? = some (.cells #[.slice none 0 0, I64 0] 74 (0, 0)) := by rw [← hV]; exact heap_alloc_new W2 _
    have hBp : Below w4.heap.size w4 V := by rw [← hV]; exact hB52.alloc hB52.size _
    have hrowV : V.ownsRow w4.heap.size 84 8 (.slice pv9 GG.length cv9) GG.length (guRow GG) := by rw [← hV]; exact hrow5.alloc _
    have hpl : w4.heap.size ≤ W2.heap.size := hB52.size
    have hpv : (Value.slice pv9 GG.length cv9).ownBlock ≠ some W2.heap.size := fun e => by have := (hrow5.lt _ e).2; omega
    have e6 : (V.cell? ⟨x, 1, none⟩ = some (.pointer (some ⟨rb, 0, none⟩)) ∧ V.cell? ⟨rb, 0, none⟩ = some (.slice (some ⟨gw, 0, none⟩) ws.length cw)) ∧ V.cell? ⟨rb, 1, none⟩ = some (.slice (some ⟨gp, 0, none⟩) ps.length cp) := ⟨⟨(hBp.cell (p := ⟨x, 1, none⟩) hxl).trans e4.1.1, (hBp.cell (p := ⟨rb, 0, none⟩) hrl).trans e4.1.2⟩, (hBp.cell (p := ⟨rb, 1, none⟩) hrl).trans e4.2⟩
    rw [hV]
    clear hHeld hV hB52 hrow5 e5
    refine HK.out _ _ e6 (fun hHeld => ?_)
    clear HK K
    try simp only [Act.put, List.setIfInBounds_toArray, List.set_cons_zero, List.set_cons_succ]
    generalize W2.heap.size = pp at hVo hpl hpv ⊢
    have fz : ∀ o, V.frozen? ⟨pp, o, none⟩ = false := fun o => frozen_of_heap hVo o
    obtain ⟨⟨z0, z1⟩, _⟩ := two_cells hVo
    refine doneH (i := 21) rfl (by kernel_rfl) (by rfl) (fun K hK => ?_)
    have HK : Hid _ := hK
    clear hK
    go_simp
    have h2w := two_heap hVo (.slice pv9 GG.length cv9) (I64 kk)
    have hBY : Below w4.heap.size w4 ((V.setCell ⟨pp, 0, none⟩ (.slice pv9 GG.length cv9)).setCell ⟨pp, 1, none⟩ (I64 kk)) := (hBp.setCell (p := ⟨pp, 0, none⟩) (by show w4.heap.size ≤ pp; exact hpl) _).setCell (p := ⟨pp, 1, none⟩) (by show w4.heap.size ≤ pp; exact hpl) _
    have hrowY : ((V.setCell ⟨pp, 0, none⟩ (.slice pv9 GG.length cv9)).setCell ⟨pp, 1, none⟩ (I64 kk)).ownsRow w4.heap.size 84 8 (.slice pv9 GG.length cv9) GG.length (guRow GG) := (((Chg.refl (fun k => k = pp) V).setCell (p := ⟨pp, 0, none⟩) (.inl rfl) _).setCell (p := ⟨pp, 1, none⟩) (.inl rfl) _).row hrowV (fun k hk e => hpv (by rw [hk, e]))
    generalize (V.setCell ⟨pp, 0, none⟩ (.slice pv9 GG.length cv9)).setCell ⟨pp, 1, none⟩ (I64 kk) = Y0 at h2w hBY hrowY ⊢
    clear hHeld fz z0 z1 hVo hBp hrowV e6
    have e7 : (Y0.cell? ⟨x, 1, none⟩ = some (.pointer (some ⟨rb, 0, none⟩)) ∧ Y0.cell? ⟨rb, 0, none⟩ = some (.slice (some ⟨gw, 0, none⟩) ws.length cw)) ∧ Y0.cell? ⟨rb, 1, none⟩ = some (.slice (some ⟨gp, 0, none⟩) ps.length cp) := ⟨⟨(hBY.cell (p := ⟨x, 1, none⟩) hxl).trans e4.1.1, (hBY.cell (p := ⟨rb, 0, none⟩) hrl).trans e4.1.2⟩, (hBY.cell (p := ⟨rb, 1, none⟩) hrl).trans e4.2⟩
    refine HK.out _ _ e7 (fun hHeld => ?_)
    clear HK K
    try simp only [Act.put, List.setIfInBounds_toArray, List.set_cons_zero, List.set_cons_succ]
    refine takeH (i := 22) (v := ?vv52) rfl (by kernel_rfl) (by kernel_rfl) (by kernel_rfl) (fun _ _ _ h => h) (Or.inl ⟨by rfl, ?hy52⟩) (by assumption) ?rest52
    case hy52 => (intro w hSw; (try dsimp only at hSw); go_simp; try with_reducible rfl)
    try simp only [Act.put, List.setIfInBounds_toArray, List.set_cons_zero, List.set_cons_succ]
    clear hHeld e4 e7
    refine wpAnyH_done (by kernel_rfl) ?_ _
    obtain ⟨v9, hv9⟩ : ∃ v9, Value.slice pv9 GG.length cv9 = v9 := ⟨_, rfl⟩
    have HV9 : Hid (Value.slice pv9 GG.length cv9 = v9) := hv9
    rw [hv9] at hrowY hpv
    clear hv9
    have h5 := HH4.out.belowC (col' := gcol w4.heap.size (lcol w3.heap.size (lcol w2.heap.size col2 va) vb) v9) hBY (fun k hk => gcol_lt hk)
    have hzY := hBY.size
    have hc5 : ∀ k, k < w4.heap.size → gcol w4.heap.size (lcol w3.heap.size (lcol w2.heap.size col2 va) vb) v9 k = lcol w3.heap.size (lcol w2.heap.size col2 va) vb k := fun k hk => gcol_lt hk
    have hpp0 : gcol w4.heap.size (lcol w3.heap.size (lcol w2.heap.size col2 va) vb) v9 pp = 0 := gcol_not hpl hpv
    have hv97 : ∀ k, v9.ownBlock = some k → gcol w4.heap.size (lcol w3.heap.size (lcol w2.heap.size col2 va) vb) v9 k = 7 := fun k hk => gcol_row (hrowY.lt k hk).1 hk
    have hva8 : ∀ k, va.ownBlock = some k → gcol w4.heap.size (lcol w3.heap.size (lcol w2.heap.size col2 va) vb) v9 k = 8 := fun k hk => by have h9 := HXB1.out k (.inl hk); rw [hc5 k (by omega), lcol_lt h9.2, lcol_row h9.1 hk]
    have hX6 : ∀ z ∈ X, ∀ k, z.2.ownBlock = some k → gcol w4.heap.size (lcol w3.heap.size (lcol w2.heap.size col2 va) vb) v9 k = 6 := fun z hz k hk => by have h9 := HXB1.out k (.inr ⟨z, hz, hk⟩); rw [hc5 k (by omega), lcol_lt h9.2, lcol_each h9.1 (links_apart HL4.out.1 hz hk)]
    have hvb8 : ∀ k, vb.ownBlock = some k → gcol w4.heap.size (lcol w3.heap.size (lcol w2.heap.size col2 va) vb) v9 k = 8 := fun k hk => by have h9 := HYB1.out k (.inl hk); rw [hc5 k h9.2, lcol_row h9.1 hk]
    have hY6 : ∀ z ∈ Y, ∀ k, z.2.ownBlock = some k → gcol w4.heap.size (lcol w3.heap.size (lcol w2.heap.size col2 va) vb) v9 k = 6 := fun z hz k hk => by have h9 := HYB1.out k (.inr ⟨z, hz, hk⟩); rw [hc5 k h9.2, lcol_each h9.1 (links_apart HL4.out.2.1 hz hk)]
    obtain ⟨col5, hc5e⟩ : ∃ col5, gcol w4.heap.size (lcol w3.heap.size (lcol w2.heap.size col2 va) vb) v9 = col5 := ⟨_, rfl⟩
    rw [hc5e] at h5 hpp0 hv97 hva8 hX6 hvb8 hY6
    clear hc5 hc5e
    have hLXY : LinksAt Y0 0 va X := (HL4.out.1.below hBY (Nat.le_refl _)).lower (Nat.zero_le _)
    have hLYY : LinksAt Y0 0 vb Y := (HL4.out.2.1.below hBY (Nat.le_refl _)).lower (Nat.zero_le _)
    have hol := ownLinksW_at w0 Y0 col5 bw C vc vi vg vl I G L h5 va X hLXY (fun k hk => ⟨hva8 k hk, HH2.out.ls.sL.noT (HXB1.out k (.inl hk)).1 0⟩) (fun z hz k hk => ⟨hX6 z hz k hk, HH2.out.ls.sI.noT (HXB1.out k (.inr ⟨z, hz, hk⟩)).1 0⟩) hXn HXV.out.1 (by omega) (by omega)
    rw [← HVA.out] at hol
    go_wp2_with fail
    refine hol.mono ?_
    rintro e W6 ⟨rfl, col6, vi6, vl6, J, K, h6, hJ, hK, hcol6, hc6, hJb, hKb⟩
    clear hol
    rw [HVA.out] at hc6 hKb
    have hz6 := hc6.size
    have hn6 : ∀ k, (vb.ownBlock = some k ∨ ∃ z ∈ Y, z.2.ownBlock = some k) → ¬ (col5 k = 1 ∨ col5 k = 3 ∨ col5 k = 5 ∨ va.ownBlock = some k ∨ ∃ z ∈ X, z.2.ownBlock = some k) := fun k hk e => by
      have h9 := HYB1.out k hk
      have h8 : col5 k = 8 ∨ col5 k = 6 := by
        rcases hk with hk | ⟨z, hz, hk⟩
        · exact .inl (hvb8 k hk)
        · exact .inr (hY6 z hz k hk)
      rcases e with e | e | e | e
      · omega
      · omega
      · omega
      · have := HXB1.out k e; omega
    have hLY6 : LinksAt W6 0 vb Y := hLYY.kept hc6 (fun k hk => hn6 k (.inl hk)) (fun z hz k hk => hn6 k (.inr ⟨z, hz, hk⟩))
    have hnoK : ∀ k, (vb.ownBlock = some k ∨ ∃ z ∈ Y, z.2.ownBlock = some k) → NoT 3 (L ++ K) k 0 := fun k hk e he hbe => by
      have h9 := HYB1.out k hk
      rcases List.mem_append.1 he with he | he
      · exact (HH3.out.ls.sL.noT h9.1 0) e he hbe
      · exfalso
        rcases hKb e he k hbe with e1 | e1
        · have := HXB1.out k (.inl e1); omega
        · omega
    have hnoJ : ∀ k, (vb.ownBlock = some k ∨ ∃ z ∈ Y, z.2.ownBlock = some k) → NoT 1 (I ++ J) k 0 := fun k hk e he hbe => by
      have h9 := HYB1.out k hk
      rcases List.mem_append.1 he with he | he
      · exact (HH3.out.ls.sI.noT h9.1 0) e he hbe
      · exfalso
        rcases hJb e he k hbe with e1 | e1
        · have := HXB1.out k (.inr e1); omega
        · omega
    have hol := ownLinksW_at w0 W6 col6 bw C vc vi6 vg vl6 (I ++ J) G (L ++ K) h6 vb Y hLY6 (fun k hk => ⟨by rw [hcol6 k (by have := HYB1.out k (.inl hk); omega)]; exact hvb8 k hk, hnoK k (.inl hk)⟩) (fun z hz k hk => ⟨by rw [hcol6 k (by have := HYB1.out k (.inr ⟨z, hz, hk⟩); omega)]; exact hY6 z hz k hk, hnoJ k (.inr ⟨z, hz, hk⟩)⟩) hYn HXV.out.2 (by rw [List.length_append]; omega) (by rw [List.length_append]; omega)
    rw [HVB.out] at hol
    clear hnoK hnoJ hn6 hJb hKb
    go_wp2_with fail
    refine hol.mono ?_
    rintro e W7 ⟨rfl, col7, vi7, vl7, J2, K2, h7, hJ2, hK2, hcol7, hc7, _, _⟩
    clear hol
    rw [← HVB.out] at hc7
    have hppl : pp < Y0.heap.size := (Array.getElem?_eq_some_iff.1 h2w).1
    have hp6 : ¬ (col5 pp = 1 ∨ col5 pp = 3 ∨ col5 pp = 5 ∨ va.ownBlock = some pp ∨ ∃ z ∈ X, z.2.ownBlock = some pp) := fun e => by
      rcases e with e | e | e | e
      · omega
      · omega
      · omega
      · have := HXB1.out pp e; omega
    have hp7 : ¬ (col6 pp = 1 ∨ col6 pp = 3 ∨ col6 pp = 5 ∨ vb.ownBlock = some pp ∨ ∃ z ∈ Y, z.2.ownBlock = some pp) := fun e => by
      rw [hcol6 pp hppl, hpp0] at e
      rcases e with e | e | e | e
      · omega
      · omega
      · omega
      · have := HYB1.out pp e; omega
    have hvar7 := (hc7.block pp (by omega) hp7).trans ((hc6.block pp hppl hp6).trans h2w)
    obtain ⟨⟨y0, _⟩, _⟩ := two_cells hvar7
    have hr6 := hc6.row (row_lower hrowY (Nat.zero_le _)) (fun k hk e => by
      have h9 := hrowY.lt k hk
      have h8 := hv97 k hk
      rcases e with e | e | e | e
      · omega
      · omega
      · omega
      · have := HXB1.out k e; omega)
    have hr7 := hc7.row hr6 (fun k hk e => by
      have h9 := hrowY.lt k hk
      have h8 := hv97 k hk
      rw [hcol6 k h9.2] at e
      rcases e with e | e | e | e
      · omega
      · omega
      · omega
      · have := HYB1.out k e; omega)
    have hog := ownGuiltW_at w0 W7 col7 bw C vc vi7 vg vl7 (I ++ J ++ J2) G (L ++ K ++ K2) h7 v9 GG.length ⟨_, hr7⟩ (fun k hk => by
      have h9 := hrowY.lt k hk
      exact ⟨by rw [hcol7 k (by omega), hcol6 k h9.2]; exact hv97 k hk, HH2.out.ls.sG.noT (by omega) 0⟩) (by omega) (by omega)
    rw [← HV9.out] at hog
    clear hr6 hr7 hvar7 hp6 hp7 hpp0 hv97 hva8 hX6 hvb8 hY6 hc6 hc7 hcol6 hcol7 h5 h6 h7 h2w hLXY hLYY hLY6 hrowY hpv hBY hz6 hzY
    go_wp2_with fail
    refine hog.mono ?_
    rintro e W8 ⟨rfl, col8, vg8, J3, h8, hJ3⟩
    clear hog y0
    go_wp2
    go_ret
    exact ⟨rfl, _, _, _, _, _, _, _, h8, by simp only [List.length_append]; omega, by simp only [List.length_append]; omega, by simp only [List.length_append]; omega⟩
  refine AllReadyH.cons (nthO_at rfl) (fun K hK => ?_) ?_
  · rw [if_pos (by rfl)]
    have HK : Hid _ := hK.out
    clear hK hHeld
    go_simp
    obtain ⟨V1, hV⟩ : ∃ V, (w4.alloc (.cells #[.slice none 0 0, I64 0] 74)).drew = V := ⟨_, rfl⟩
    have hVo1 : V1.heap[w4.heap.size]? = some (.cells #[.slice none 0 0, I64 0] 74 (0, 0)) := by rw [← hV]; exact heap_alloc_new w4 _
    have hB51 : Below w4.heap.size w4 V1 := by rw [← hV]; exact ((Below.refl _ w4).alloc (Nat.le_refl _) _).drew
    have hvz : V1.heap.size = w4.heap.size + 1 := by rw [← hV]; simp
    have e5 : (V1.cell? ⟨x, 1, none⟩ = some (.pointer (some ⟨rb, 0, none⟩)) ∧ V1.cell? ⟨rb, 0, none⟩ = some (.slice (some ⟨gw, 0, none⟩) ws.length cw)) ∧ V1.cell? ⟨rb, 1, none⟩ = some (.slice (some ⟨gp, 0, none⟩) ps.length cp) := ⟨⟨(hB51.cell (p := ⟨x, 1, none⟩) hxl).trans e4.1.1, (hB51.cell (p := ⟨rb, 0, none⟩) hrl).trans e4.1.2⟩, (hB51.cell (p := ⟨rb, 1, none⟩) hrl).trans e4.2⟩
    rw [hV]
    clear hV
    refine HK.out _ _ e5 (fun hHeld => ?_)
    clear HK K
    try simp only [Act.put, List.setIfInBounds_toArray, List.set_cons_zero, List.set_cons_succ]
    refine doneH (i := 16) rfl (by kernel_rfl) (by rfl) (fun K hK => ?_)
    have HK : Hid _ := hK
    clear hK
    go_simp
    refine (HJD.out V1 hB51).mono ?_
    rintro e V ⟨⟨v, rfl, hrow⟩, hBW2⟩
    clear HJD
    obtain ⟨pv9, cv9, hvs⟩ := row_slice hrow
    subst hvs
    have hBp : Below w4.heap.size w4 V := hB51.trans (hBW2.mono hB51.size)
    have hrowV : V.ownsRow w4.heap.size 84 8 (.slice pv9 GG.length cv9) GG.length (guRow GG) := row_lower hrow (by omega)
    have hVo : V.heap[w4.heap.size]? = some (.cells #[.slice none 0 0, I64 0] 74 (0, 0)) := (hBW2.block _ (by omega)).trans hVo1
    have hpl : w4.heap.size ≤ w4.heap.size := Nat.le_refl _
    have hpv : (Value.slice pv9 GG.length cv9).ownBlock ≠ some w4.heap.size := fun e => by have := (hrow.lt _ e).1; omega
    have e6 : (V.cell? ⟨x, 1, none⟩ = some (.pointer (some ⟨rb, 0, none⟩)) ∧ V.cell? ⟨rb, 0, none⟩ = some (.slice (some ⟨gw, 0, none⟩) ws.length cw)) ∧ V.cell? ⟨rb, 1, none⟩ = some (.slice (some ⟨gp, 0, none⟩) ps.length cp) := ⟨⟨(hBp.cell (p := ⟨x, 1, none⟩) hxl).trans e4.1.1, (hBp.cell (p := ⟨rb, 0, none⟩) hrl).trans e4.1.2⟩, (hBp.cell (p := ⟨rb, 1, none⟩) hrl).trans e4.2⟩
    clear hHeld hVo1 hB51 hBW2 hrow hvz e5
    refine HK.out _ _ e6 (fun hHeld => ?_)
    clear HK K
    try simp only [Act.put, List.setIfInBounds_toArray, List.set_cons_zero, List.set_cons_succ]
    refine takeH (i := 17) (v := ?vv53) rfl (by kernel_rfl) (by kernel_rfl) (by kernel_rfl) (fun _ _ _ h => h) (Or.inl ⟨by rfl, ?hy53⟩) (by assumption) ?rest53
    case hy53 => (intro w hSw; (try dsimp only at hSw); go_simp; try with_reducible rfl)
    try simp only [Act.put, List.setIfInBounds_toArray, List.set_cons_zero, List.set_cons_succ]
    refine takeH (i := 18) (v := ?vv54) rfl (by kernel_rfl) (by kernel_rfl) (by kernel_rfl) (fun _ _ _ h => h) (Or.inl ⟨by rfl, ?hy54⟩) (by assumption) ?rest54
    case hy54 => (intro w hSw; (try dsimp only at hSw); go_simp; try with_reducible rfl)
    try simp only [Act.put, List.setIfInBounds_toArray, List.set_cons_zero, List.set_cons_succ]
    refine takeH (i := 19) (v := ?vv55) rfl (by kernel_rfl) (by kernel_rfl) (by kernel_rfl) (fun _ _ _ h => h) (Or.inl ⟨by rfl, ?hy55⟩) (by assumption) ?rest55
    case hy55 => (intro w hSw; (try dsimp only at hSw); go_simp; try with_reducible rfl)
    try simp only [Act.put, List.setIfInBounds_toArray, List.set_cons_zero, List.set_cons_succ]
    clear hpl
    obtain ⟨pp, hpq⟩ : ∃ pp, w4.heap.size = pp := ⟨_, rfl⟩
    have hpl : w4.heap.size ≤ pp := by omega
    rw [hpq] at hVo hpv ⊢
    have fz : ∀ o, V.frozen? ⟨pp, o, none⟩ = false := fun o => frozen_of_heap hVo o
    obtain ⟨⟨z0, z1⟩, _⟩ := two_cells hVo
    refine doneH (i := 21) rfl (by kernel_rfl) (by rfl) (fun K hK => ?_)
    have HK : Hid _ := hK
    clear hK
    go_simp
    have h2w := two_heap hVo (.slice pv9 GG.length cv9) (I64 kk)
    have hBY : Below w4.heap.size w4 ((V.setCell ⟨pp, 0, none⟩ (.slice pv9 GG.length cv9)).setCell ⟨pp, 1, none⟩ (I64 kk)) := (hBp.setCell (p := ⟨pp, 0, none⟩) (by show w4.heap.size ≤ pp; exact hpl) _).setCell (p := ⟨pp, 1, none⟩) (by show w4.heap.size ≤ pp; exact hpl) _
    have hrowY : ((V.setCell ⟨pp, 0, none⟩ (.slice pv9 GG.length cv9)).setCell ⟨pp, 1, none⟩ (I64 kk)).ownsRow w4.heap.size 84 8 (.slice pv9 GG.length cv9) GG.length (guRow GG) := (((Chg.refl (fun k => k = pp) V).setCell (p := ⟨pp, 0, none⟩) (.inl rfl) _).setCell (p := ⟨pp, 1, none⟩) (.inl rfl) _).row hrowV (fun k hk e => hpv (by rw [hk, e]))
    generalize (V.setCell ⟨pp, 0, none⟩ (.slice pv9 GG.length cv9)).setCell ⟨pp, 1, none⟩ (I64 kk) = Y0 at h2w hBY hrowY ⊢
    clear hHeld fz z0 z1 hVo hBp hrowV e6
    have e7 : (Y0.cell? ⟨x, 1, none⟩ = some (.pointer (some ⟨rb, 0, none⟩)) ∧ Y0.cell? ⟨rb, 0, none⟩ = some (.slice (some ⟨gw, 0, none⟩) ws.length cw)) ∧ Y0.cell? ⟨rb, 1, none⟩ = some (.slice (some ⟨gp, 0, none⟩) ps.length cp) := ⟨⟨(hBY.cell (p := ⟨x, 1, none⟩) hxl).trans e4.1.1, (hBY.cell (p := ⟨rb, 0, none⟩) hrl).trans e4.1.2⟩, (hBY.cell (p := ⟨rb, 1, none⟩) hrl).trans e4.2⟩
    refine HK.out _ _ e7 (fun hHeld => ?_)
    clear HK K
    try simp only [Act.put, List.setIfInBounds_toArray, List.set_cons_zero, List.set_cons_succ]
    refine takeH (i := 22) (v := ?vv56) rfl (by kernel_rfl) (by kernel_rfl) (by kernel_rfl) (fun _ _ _ h => h) (Or.inl ⟨by rfl, ?hy56⟩) (by assumption) ?rest56
    case hy56 => (intro w hSw; (try dsimp only at hSw); go_simp; try with_reducible rfl)
    try simp only [Act.put, List.setIfInBounds_toArray, List.set_cons_zero, List.set_cons_succ]
    clear hHeld e4 e7
    refine wpAnyH_done (by kernel_rfl) ?_ _
    obtain ⟨v9, hv9⟩ : ∃ v9, Value.slice pv9 GG.length cv9 = v9 := ⟨_, rfl⟩
    have HV9 : Hid (Value.slice pv9 GG.length cv9 = v9) := hv9
    rw [hv9] at hrowY hpv
    clear hv9
    have h5 := HH4.out.belowC (col' := gcol w4.heap.size (lcol w3.heap.size (lcol w2.heap.size col2 va) vb) v9) hBY (fun k hk => gcol_lt hk)
    have hzY := hBY.size
    have hc5 : ∀ k, k < w4.heap.size → gcol w4.heap.size (lcol w3.heap.size (lcol w2.heap.size col2 va) vb) v9 k = lcol w3.heap.size (lcol w2.heap.size col2 va) vb k := fun k hk => gcol_lt hk
    have hpp0 : gcol w4.heap.size (lcol w3.heap.size (lcol w2.heap.size col2 va) vb) v9 pp = 0 := gcol_not hpl hpv
    have hv97 : ∀ k, v9.ownBlock = some k → gcol w4.heap.size (lcol w3.heap.size (lcol w2.heap.size col2 va) vb) v9 k = 7 := fun k hk => gcol_row (hrowY.lt k hk).1 hk
    have hva8 : ∀ k, va.ownBlock = some k → gcol w4.heap.size (lcol w3.heap.size (lcol w2.heap.size col2 va) vb) v9 k = 8 := fun k hk => by have h9 := HXB1.out k (.inl hk); rw [hc5 k (by omega), lcol_lt h9.2, lcol_row h9.1 hk]
    have hX6 : ∀ z ∈ X, ∀ k, z.2.ownBlock = some k → gcol w4.heap.size (lcol w3.heap.size (lcol w2.heap.size col2 va) vb) v9 k = 6 := fun z hz k hk => by have h9 := HXB1.out k (.inr ⟨z, hz, hk⟩); rw [hc5 k (by omega), lcol_lt h9.2, lcol_each h9.1 (links_apart HL4.out.1 hz hk)]
    have hvb8 : ∀ k, vb.ownBlock = some k → gcol w4.heap.size (lcol w3.heap.size (lcol w2.heap.size col2 va) vb) v9 k = 8 := fun k hk => by have h9 := HYB1.out k (.inl hk); rw [hc5 k h9.2, lcol_row h9.1 hk]
    have hY6 : ∀ z ∈ Y, ∀ k, z.2.ownBlock = some k → gcol w4.heap.size (lcol w3.heap.size (lcol w2.heap.size col2 va) vb) v9 k = 6 := fun z hz k hk => by have h9 := HYB1.out k (.inr ⟨z, hz, hk⟩); rw [hc5 k h9.2, lcol_each h9.1 (links_apart HL4.out.2.1 hz hk)]
    obtain ⟨col5, hc5e⟩ : ∃ col5, gcol w4.heap.size (lcol w3.heap.size (lcol w2.heap.size col2 va) vb) v9 = col5 := ⟨_, rfl⟩
    rw [hc5e] at h5 hpp0 hv97 hva8 hX6 hvb8 hY6
    clear hc5 hc5e
    have hLXY : LinksAt Y0 0 va X := (HL4.out.1.below hBY (Nat.le_refl _)).lower (Nat.zero_le _)
    have hLYY : LinksAt Y0 0 vb Y := (HL4.out.2.1.below hBY (Nat.le_refl _)).lower (Nat.zero_le _)
    have hol := ownLinksW_at w0 Y0 col5 bw C vc vi vg vl I G L h5 va X hLXY (fun k hk => ⟨hva8 k hk, HH2.out.ls.sL.noT (HXB1.out k (.inl hk)).1 0⟩) (fun z hz k hk => ⟨hX6 z hz k hk, HH2.out.ls.sI.noT (HXB1.out k (.inr ⟨z, hz, hk⟩)).1 0⟩) hXn HXV.out.1 (by omega) (by omega)
    rw [← HVA.out] at hol
    go_wp2_with fail
    refine hol.mono ?_
    rintro e W6 ⟨rfl, col6, vi6, vl6, J, K, h6, hJ, hK, hcol6, hc6, hJb, hKb⟩
    clear hol
    rw [HVA.out] at hc6 hKb
    have hz6 := hc6.size
    have hn6 : ∀ k, (vb.ownBlock = some k ∨ ∃ z ∈ Y, z.2.ownBlock = some k) → ¬ (col5 k = 1 ∨ col5 k = 3 ∨ col5 k = 5 ∨ va.ownBlock = some k ∨ ∃ z ∈ X, z.2.ownBlock = some k) := fun k hk e => by
      have h9 := HYB1.out k hk
      have h8 : col5 k = 8 ∨ col5 k = 6 := by
        rcases hk with hk | ⟨z, hz, hk⟩
        · exact .inl (hvb8 k hk)
        · exact .inr (hY6 z hz k hk)
      rcases e with e | e | e | e
      · omega
      · omega
      · omega
      · have := HXB1.out k e; omega
    have hLY6 : LinksAt W6 0 vb Y := hLYY.kept hc6 (fun k hk => hn6 k (.inl hk)) (fun z hz k hk => hn6 k (.inr ⟨z, hz, hk⟩))
    have hnoK : ∀ k, (vb.ownBlock = some k ∨ ∃ z ∈ Y, z.2.ownBlock = some k) → NoT 3 (L ++ K) k 0 := fun k hk e he hbe => by
      have h9 := HYB1.out k hk
      rcases List.mem_append.1 he with he | he
      · exact (HH3.out.ls.sL.noT h9.1 0) e he hbe
      · exfalso
        rcases hKb e he k hbe with e1 | e1
        · have := HXB1.out k (.inl e1); omega
        · omega
    have hnoJ : ∀ k, (vb.ownBlock = some k ∨ ∃ z ∈ Y, z.2.ownBlock = some k) → NoT 1 (I ++ J) k 0 := fun k hk e he hbe => by
      have h9 := HYB1.out k hk
      rcases List.mem_append.1 he with he | he
      · exact (HH3.out.ls.sI.noT h9.1 0) e he hbe
      · exfalso
        rcases hJb e he k hbe with e1 | e1
        · have := HXB1.out k (.inr e1); omega
        · omega
    have hol := ownLinksW_at w0 W6 col6 bw C vc vi6 vg vl6 (I ++ J) G (L ++ K) h6 vb Y hLY6 (fun k hk => ⟨by rw [hcol6 k (by have := HYB1.out k (.inl hk); omega)]; exact hvb8 k hk, hnoK k (.inl hk)⟩) (fun z hz k hk => ⟨by rw [hcol6 k (by have := HYB1.out k (.inr ⟨z, hz, hk⟩); omega)]; exact hY6 z hz k hk, hnoJ k (.inr ⟨z, hz, hk⟩)⟩) hYn HXV.out.2 (by rw [List.length_append]; omega) (by rw [List.length_append]; omega)
    rw [HVB.out] at hol
    clear hnoK hnoJ hn6 hJb hKb
    go_wp2_with fail
    refine hol.mono ?_
    rintro e W7 ⟨rfl, col7, vi7, vl7, J2, K2, h7, hJ2, hK2, hcol7, hc7, _, _⟩
    clear hol
    rw [← HVB.out] at hc7
    have hppl : pp < Y0.heap.size := (Array.getElem?_eq_some_iff.1 h2w).1
    have hp6 : ¬ (col5 pp = 1 ∨ col5 pp = 3 ∨ col5 pp = 5 ∨ va.ownBlock = some pp ∨ ∃ z ∈ X, z.2.ownBlock = some pp) := fun e => by
      rcases e with e | e | e | e
      · omega
      · omega
      · omega
      · have := HXB1.out pp e; omega
    have hp7 : ¬ (col6 pp = 1 ∨ col6 pp = 3 ∨ col6 pp = 5 ∨ vb.ownBlock = some pp ∨ ∃ z ∈ Y, z.2.ownBlock = some pp) := fun e => by
      rw [hcol6 pp hppl, hpp0] at e
      rcases e with e | e | e | e
      · omega
      · omega
      · omega
      · have := HYB1.out pp e; omega
    have hvar7 := (hc7.block pp (by omega) hp7).trans ((hc6.block pp hppl hp6).trans h2w)
    obtain ⟨⟨y0, _⟩, _⟩ := two_cells hvar7
    have hr6 := hc6.row (row_lower hrowY (Nat.zero_le _)) (fun k hk e => by
      have h9 := hrowY.lt k hk
      have h8 := hv97 k hk
      rcases e with e | e | e | e
      · omega
      · omega
      · omega
      · have := HXB1.out k e; omega)
    have hr7 := hc7.row hr6 (fun k hk e => by
      have h9 := hrowY.lt k hk
      have h8 := hv97 k hk
      rw [hcol6 k h9.2] at e
      rcases e with e | e | e | e
      · omega
      · omega
      · omega
      · have := HYB1.out k e; omega)
    have hog := ownGuiltW_at w0 W7 col7 bw C vc vi7 vg vl7 (I ++ J ++ J2) G (L ++ K ++ K2) h7 v9 GG.length ⟨_, hr7⟩ (fun k hk => by
      have h9 := hrowY.lt k hk
      exact ⟨by rw [hcol7 k (by omega), hcol6 k h9.2]; exact hv97 k hk, HH2.out.ls.sG.noT (by omega) 0⟩) (by omega) (by omega)
    rw [← HV9.out] at hog
    clear hr6 hr7 hvar7 hp6 hp7 hpp0 hv97 hva8 hX6 hvb8 hY6 hc6 hc7 hcol6 hcol7 h5 h6 h7 h2w hLXY hLYY hLY6 hrowY hpv hBY hz6 hzY
    go_wp2_with fail
    refine hog.mono ?_
    rintro e W8 ⟨rfl, col8, vg8, J3, h8, hJ3⟩
    clear hog y0
    go_wp2
    go_ret
    exact ⟨rfl, _, _, _, _, _, _, _, h8, by simp only [List.length_append]; omega, by simp only [List.length_append]; omega, by simp only [List.length_append]; omega⟩
  exact AllReadyH.nil
end Go.Proofs.YtgebcnnenhgkcaaGreat
