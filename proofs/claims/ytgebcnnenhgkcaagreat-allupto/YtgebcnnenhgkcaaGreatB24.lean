/- Plain mathematics of Judge: who is guilty by two proofs; of two right ones that can't both be, a third. Nothing of the program is named here but by the plain functions that its calls answer. -/
import Derived.Test.YtgebcnnenhgkcaaGreatB23
import Derived.Test.YtgebcnnenhgkcaaGreatB08
import Derived.Test.YtgebcnnenhgkcaaGreatB12
namespace Go.Proofs.YtgebcnnenhgkcaaGreat

/-- The votes of a voter by the links of a proof. -/
def hasV (l : List Int) (v : Int) : Bool := l.any (fun u => u == v)
theorem hasV_iff {l : List Int} {v : Int} : hasV l v = true ↔ v ∈ l := by unfold hasV; simp
def ofL (L : List Lk) (v : Int) : List Vt := (L.filter (fun l => hasV l.vs v)).map (fun l => ⟨v, l.s, l.t⟩)
/-- The first pair, of one list and then of the other, that nobody may give. -/
def firstF (K : Vt → Vt → Int) : List Vt → List Vt → Option (Int × Vt × Vt)
  | [], _ => none
  | x :: r, o => match o.find? (fun y => decide (K x y ≠ 0)) with
    | some y => some (K x y, x, y)
    | none => firstF K r o
def judgeV (ps : List Int) (one other : List Lk) (v : Int) : Option Gu := (firstF (kindI ps) (ofL one v) (ofL other v)).map fun p => ⟨v, p.1, p.2.1, p.2.2⟩
def judgeL (n : Nat) (ps : List Int) (one other : List Lk) : List Gu := (List.range n).filterMap fun v : Nat => judgeV ps one other (v : Int)
theorem judgeL_succ (n : Nat) (ps : List Int) (one other : List Lk) : judgeL (n + 1) ps one other = judgeL n ps one other ++ (judgeV ps one other n).toList := by
  unfold judgeL; rw [List.range_succ, List.filterMap_append]
  cases h : judgeV ps one other n <;> simp [h]
theorem judgeL_length (n : Nat) (ps : List Int) (one other : List Lk) : (judgeL n ps one other).length ≤ n := by
  unfold judgeL
  exact Nat.le_trans (List.length_filterMap_le _ _) (by simp)

theorem firstF_some {K : Vt → Vt → Int} : ∀ {l o : List Vt} {k : Int} {x y : Vt}, firstF K l o = some (k, x, y) → x ∈ l ∧ y ∈ o ∧ K x y = k ∧ K x y ≠ 0 := by
  intro l
  induction l with
  | nil => intro o k x y h; cases h
  | cons z r ih =>
    intro o k x y h
    unfold firstF at h
    cases hf : o.find? (fun y => decide (K z y ≠ 0)) with
    | some y' =>
      rw [hf] at h
      simp only [Option.some.injEq, Prod.mk.injEq] at h
      obtain ⟨h1, rfl, rfl⟩ := h
      have hp := List.find?_some hf
      exact ⟨List.mem_cons_self, List.mem_of_find?_eq_some hf, h1, by simpa using hp⟩
    | none =>
      rw [hf] at h
      obtain ⟨h1, h2⟩ := ih h
      exact ⟨List.mem_cons_of_mem _ h1, h2⟩
theorem mem_ofL {L : List Lk} {v : Int} {x : Vt} : x ∈ ofL L v ↔ ∃ l ∈ L, v ∈ l.vs ∧ x = ⟨v, l.s, l.t⟩ := by
  unfold ofL
  simp only [List.mem_map, List.mem_filter, hasV_iff]
  constructor
  · rintro ⟨l, ⟨h1, h2⟩, rfl⟩; exact ⟨l, h1, h2, rfl⟩
  · rintro ⟨l, h1, h2, rfl⟩; exact ⟨l, ⟨h1, h2⟩, rfl⟩

/-- What stands behind a guilt by two proofs. -/
structure JuOf (n : Nat) (ps : List Int) (one other : List Lk) (g : Gu) : Prop where
  v0 : 0 ≤ g.v
  v1 : g.v < n
  a : ∃ l ∈ one, g.v ∈ l.vs ∧ g.a = ⟨g.v, l.s, l.t⟩
  b : ∃ l ∈ other, g.v ∈ l.vs ∧ g.b = ⟨g.v, l.s, l.t⟩
  k : kindI ps g.a g.b ≠ 0
theorem judgeV_some {ps : List Int} {one other : List Lk} {v : Int} {g : Gu} (h : judgeV ps one other v = some g) : g.v = v ∧ (∃ l ∈ one, v ∈ l.vs ∧ g.a = ⟨v, l.s, l.t⟩) ∧ (∃ l ∈ other, v ∈ l.vs ∧ g.b = ⟨v, l.s, l.t⟩) ∧ kindI ps g.a g.b ≠ 0 := by
  unfold judgeV at h
  cases hp : firstF (kindI ps) (ofL one v) (ofL other v) with
  | none => rw [hp] at h; cases h
  | some p =>
    obtain ⟨k, x, y⟩ := p
    rw [hp] at h
    simp only [Option.map_some, Option.some.injEq] at h
    subst h
    obtain ⟨h1, h2, h3, h4⟩ := firstF_some hp
    exact ⟨rfl, mem_ofL.1 h1, mem_ofL.1 h2, h4⟩
/-! Where a right proof passes -/
def atL (L : List Lk) (k : Nat) : Int := endL 0 (L.take k)
structure Chain (ws ps : List Int) (L : List Lk) : Prop where
  s : ∀ (k : Nat) (l : Lk), L[k]? = some l → l.s = atL L k ∧ l.t = atL L (k + 1)
  t : ∀ (k : Nat) (l : Lk), L[k]? = some l → 0 < l.t ∧ l.t.toNat < ps.length ∧ l.s ∈ up ps l.t
  v : ∀ (k : Nat) (l : Lk), L[k]? = some l → (∀ v ∈ l.vs, 0 ≤ v ∧ v < ws.length) ∧ l.vs.Pairwise (fun a b => a < b) ∧ 2 * sumI ws ≤ 3 * wSum ws l.vs

theorem chain_at {ws ps : List Int} {L : List Lk} (h : chainB ws ps 0 L = true) {k : Nat} {l : Lk} (hk : L[k]? = some l) : okL ws ps (atL L k) l = true := by
  by_cases hh : chainB ws ps 0 (L.take (k + 1)) = true
  · rw [chainB_take hk] at hh
    simp only [Bool.and_eq_true] at hh
    exact hh.2
  · have := chainB_prefix (L := L) (k := k + 1) (a := 0) (by simpa using hh)
    rw [this] at h; cases h
theorem chain_of {ws ps : List Int} (hT : Tree ps) {L : List Lk} (h : chainB ws ps 0 L = true) : Chain ws ps L := by
  refine ⟨fun k l hk => ?_, fun k l hk => ?_, fun k l hk => ?_⟩
  · have h1 := chain_at h hk
    unfold okL at h1
    simp only [Bool.and_eq_true, beq_iff_eq] at h1
    exact ⟨h1.1, (endL_take hk).symm⟩
  · have h1 := chain_at h hk
    unfold okL inB at h1
    simp only [Bool.and_eq_true, decide_eq_true_eq] at h1
    have hm := ahead_mem.1 h1.2.1.2
    have h2 := mem_up_lt hT h1.2.1.1.1 (by omega) hm
    exact ⟨by omega, by omega, hm⟩
  · have h1 := chain_at h hk
    unfold okL enB at h1
    simp only [Bool.and_eq_true, riseB_iff, decide_eq_true_eq] at h1
    exact ⟨h1.2.2.1.1, h1.2.2.1.2, h1.2.2.2⟩
theorem atL_zero (L : List Lk) : atL L 0 = 0 := rfl

section
variable {ws ps : List Int} {L : List Lk}
theorem Chain.ok (hT : Tree ps) (h : Chain ws ps L) : ∀ k, k ≤ L.length → 0 ≤ atL L k ∧ (atL L k).toNat < ps.length := by
  intro k hk
  cases k with
  | zero => rw [atL_zero]; exact ⟨by omega, hT.1⟩
  | succ k =>
    obtain ⟨l, hl⟩ : ∃ l, L[k]? = some l := ⟨_, List.getElem?_eq_getElem hk⟩
    rw [← (h.s k l hl).2]
    have := h.t k l hl
    exact ⟨by omega, this.2.1⟩
theorem Chain.step (h : Chain ws ps L) {k : Nat} (hk : k < L.length) : atL L k ∈ up ps (atL L (k + 1)) := by
  obtain ⟨l, hl⟩ : ∃ l, L[k]? = some l := ⟨_, List.getElem?_eq_getElem hk⟩
  rw [← (h.s k l hl).1, ← (h.s k l hl).2]
  exact (h.t k l hl).2.2
/-- A first step that passes a height. -/
theorem Chain.passes (H : Int) : ∀ n, n ≤ L.length → ht ps (atL L 0) ≤ H → H < ht ps (atL L n) → ∃ k, k < n ∧ ht ps (atL L k) ≤ H ∧ H < ht ps (atL L (k + 1)) := by
  intro n
  induction n with
  | zero => intro _ h1 h2; omega
  | succ n ih =>
    intro hn h1 h2
    by_cases h3 : ht ps (atL L n) ≤ H
    · exact ⟨n, by omega, h3, h2⟩
    · obtain ⟨k, hk, h4, h5⟩ := ih (by omega) h1 (by omega)
      exact ⟨k, by omega, h4, h5⟩
end

/-- A right proof, opened. -/
structure Rt (ws ps : List Int) (L : List Lk) : Prop where
  pos : 1 ≤ L.length
  le : L.length ≤ 40
  chain : Chain ws ps L
  last : lastS L = atL L (L.length - 1)
  par : ps[(atL L L.length).toNat]?.getD 0 = lastS L
  ht : ht ps (atL L L.length) = ht ps (lastS L) + 1
theorem rt_of {ws ps : List Int} (hT : Tree ps) {L : List Lk} (h : rightB ws ps L = true) : Rt ws ps L := by
  unfold rightB at h
  simp only [Bool.and_eq_true, decide_eq_true_eq, beq_iff_eq] at h
  obtain ⟨⟨h1, h2⟩, h3, h4⟩ := h
  have hC := chain_of hT h3
  obtain ⟨l, hl⟩ : ∃ l, L[L.length - 1]? = some l := ⟨_, List.getElem?_eq_getElem (by omega)⟩
  have hlast : lastS L = l.s := by unfold lastS; rw [hl]; rfl
  have hend : atL L L.length = l.t := by unfold atL; rw [List.take_length]; exact endL_last hl
  have hend' : endL 0 L = l.t := endL_last hl
  rw [hend'] at h4
  refine ⟨h1, h2, hC, by rw [hlast]; exact (hC.s _ l hl).1, by rw [hend]; exact h4, ?_⟩
  rw [hend, ← h4]
  have hlt := hC.t _ l hl
  have e : ht ps l.t = ht ps (ps[l.t.toNat]?.getD 0) + 1 := by unfold ht; rw [up_step hT hlt.1 hlt.2.1]; simp
  exact e

end Go.Proofs.YtgebcnnenhgkcaaGreat
/- Judge's own parts: right proofs, what they show, Agree, the votes of a voter by a proof. -/
namespace Go.Proofs.YtgebcnnenhgkcaaGreat
open Go.RowKit Go.Shelf

set_option maxRecDepth 100000 in
set_option maxHeartbeats 4000000 in
theorem pRight_at (b o g cap gw cw : Nat) (ws ps : List Int) (X : List LkV) (p : Option Addr) (c : Nat) (w : World) (hA : TreeAt w b o g cap ps) (hww : ∀ j, j < ws.length → w.cell? ⟨gw, j, none⟩ = some (I64 (ws[j]?.getD 0))) (hT : Tree ps) (hW : OkWs ws) (hL : LkAt w p X) (hm : X.length ≤ maxLen) :
    Calls Tryz.prog 124 #[.pointer (some ⟨b, o, none⟩), .slice (some ⟨gw, 0, none⟩) ws.length cw, .slice p X.length c] w fun e w' => e = .returned (.bool (rightB ws ps (X.map (fun x => x.1)))) ∧ Below w.heap.size w w' := by
  have hml : X.length ≤ 9223372036854775807 := by unfold maxLen at hm; omega
  clear hm
  have hT2 := hT.2.1
  have hw12 := hW.le
  have hlb := hA.lt_b
  have hlg := hA.lt_g hT.1
  have HWW : Hid (∀ j, j < ws.length → w.cell? ⟨gw, j, none⟩ = some (I64 (ws[j]?.getD 0))) := hww
  clear hww
  have HN : Hid ((X.map (fun x => x.1)).length = X.length) := by simp [Hid]
  by_cases hn1 : X.length < 1
  · have hn1' : (X.length : Int) < 1 := by omega
    have HB : Hid (rightB ws ps (X.map (fun x => x.1)) = false) := by show _ = _; unfold rightB; rw [HN.out]; simp; omega
    go_enter Tryz.func124, Tryz.ntmps124
    go_wp2
    go_ret
    exact ⟨by rw [HB.out]; rfl, Below.refl _ _⟩
  have hn1' : ¬ (X.length : Int) < 1 := by omega
  by_cases hn2 : X.length > 40
  · have hn2' : (X.length : Int) > 40 := by omega
    have HB : Hid (rightB ws ps (X.map (fun x => x.1)) = false) := by show _ = _; unfold rightB; rw [HN.out]; simp; omega
    go_enter Tryz.func124, Tryz.ntmps124
    go_wp2
    go_ret
    exact ⟨by rw [HB.out]; rfl, Below.refl _ _⟩
  have hn2' : ¬ (X.length : Int) > 40 := by omega
  have HRT : Hid (rightB ws ps (X.map (fun x => x.1)) = (chainB ws ps 0 (X.map (fun x => x.1)) && (ps[(endL 0 (X.map (fun x => x.1))).toNat]?.getD 0 == lastS (X.map (fun x => x.1))))) := by
    show _ = _
    unfold rightB
    rw [HN.out]
    have q1 : decide (1 ≤ X.length) = true := by simp; omega
    have q2 : decide (X.length ≤ 40) = true := by simp; omega
    rw [q1, q2]; rfl
  go_enter Tryz.func124, Tryz.ntmps124
  go_wp2_with fail
  go_loopw [7, 21] (fun aa ii wr => ∃ (k : Nat) (a : Int), k ≤ X.length ∧ ii = .int .i64 k ∧ aa = .int .i64 a ∧ Below w.heap.size w wr ∧ Hid (chainB ws ps 0 ((X.map (fun x => x.1)).take k) = true) ∧ Hid (endL 0 ((X.map (fun x => x.1)).take k) = a)) (fun _ ii _ => X.length - (intOf ii).toNat)
  case atStart => exact ⟨0, 0, by omega, rfl, rfl, Below.refl _ _, rfl, rfl⟩
  case round =>
    obtain ⟨k, a, hk, rfl, rfl, hB, HCH, HEN⟩ := hrel
    have hLr := hL.below hB
    have hz := hB.size
    by_cases hlt : k < X.length
    · have hlt' : (k : Int) < (X.length : Int) := by omega
      rcases hLr.at' with rfl | ⟨gl, ol, rfl, hcs⟩
      · simp at hlt
      obtain ⟨x, hx⟩ : ∃ x, X[k]? = some x := ⟨_, List.getElem?_eq_getElem hlt⟩
      obtain ⟨x0, x1, x2⟩ := hcs k x hx
      obtain ⟨pv, cv, hxv, hiv, hvm⟩ := hLr.vs x (List.mem_of_getElem? hx)
      rw [hxv] at x2
      have hxL : (X.map (fun x => x.1))[k]? = some x.1 := by simp [hx]
      have HTK : Hid (chainB ws ps 0 ((X.map (fun x => x.1)).take (k + 1)) = okL ws ps a x.1) := by show _ = _; rw [chainB_take hxL, HCH.out, HEN.out, Bool.true_and]
      have HEK : Hid (endL 0 ((X.map (fun x => x.1)).take (k + 1)) = x.1.t) := endL_take hxL
      have HF : Hid (okL ws ps a x.1 = false → rightB ws ps (X.map (fun x => x.1)) = false) := fun hf => by
        rw [HRT.out, chainB_prefix (k := k + 1) (by rw [HTK.out]; exact hf), Bool.false_and]
      obtain ⟨⟨s, t, V⟩, u⟩ := x
      dsimp only at x0 x1 x2 hxv hiv hvm HTK HEK HF
      clear hcs hx hxL HCH HEN HRT hL hLr
      by_cases e1 : s = a
      · have q1 : (s != a) = false := by simpa using e1
        have HOK : Hid (okL ws ps a ⟨s, t, V⟩ = ((inB ps t && ahead ps s t) && (riseB ws.length 0 V && enB ws V))) := by
          show _ = _
          unfold okL
          simp only
          rw [e1]; simp
        clear e1
        go_wp2_with fail
        obtain ⟨W1, hW1⟩ : ∃ W1, wr.alloc (.cells #[I64 s, I64 t, .slice pv V.length cv] 121) = W1 := ⟨_, rfl⟩
        have hnew : W1.heap[wr.heap.size]? = some (.cells #[I64 s, I64 t, .slice pv V.length cv] 121 (0, 0)) := by rw [← hW1]; exact heap_alloc_new wr _
        have hB1 : Below wr.heap.size wr W1 := by rw [← hW1]; exact (Below.refl _ wr).alloc (Nat.le_refl _) _
        have hBw1 : Below w.heap.size w W1 := hB.trans (hB1.mono hz)
        have hz1 : W1.heap.size = wr.heap.size + 1 := by rw [← hW1]; simp
        obtain ⟨nk, hnk⟩ : ∃ nk, wr.heap.size = nk := ⟨_, rfl⟩
        rw [hW1]
        clear hW1
        have hah := isAhead_any b o g cap ps hT s t W1 (hA.below hBw1 hlb hlg)
        refine hah.mono ?_
        rintro e W2 ⟨rfl, hB2⟩
        clear hah
        have hBw2 : Below w.heap.size w W2 := hBw1.trans (hB2.mono hBw1.size)
        have hn2 : W2.heap[wr.heap.size]? = some (.cells #[I64 s, I64 t, .slice pv V.length cv] 121 (0, 0)) := (hB2.block _ (by omega)).trans hnew
        rw [hnk] at hn2 ⊢
        clear hnk
        have y1 : W2.cell? ⟨nk, 1, none⟩ = some (I64 t) := by rw [cell_of_heap hn2]; rfl
        have y2 : W2.cell? ⟨nk, 2, none⟩ = some (.slice pv V.length cv) := by rw [cell_of_heap hn2]; rfl
        cases ha : (inB ps t && ahead ps s t)
        · have HB : Hid (rightB ws ps (X.map (fun x => x.1)) = false) := HF.out (by rw [HOK.out, ha]; rfl)
          clear HF HTK HEK HOK ha
          go_wp2
          go_ret
          exact ⟨by rw [HB.out]; rfl, hBw2⟩
        · rw [ha, Bool.true_and] at HOK
          have hen := pEnough_at gw cw pv cv ws V W2 (fun j hj => by have h1 := HWW.out j hj; exact (hBw2.cell (p := ⟨gw, j, none⟩) (World.block_lt_of_cell? w _ h1)).trans h1) hW (hiv.below' (hB1.trans (hB2.mono (by omega)))) hvm
          go_wp2_with fail
          refine hen.mono ?_
          rintro e W3 ⟨rfl, rfl⟩
          clear hen
          cases hev : (riseB ws.length 0 V && enB ws V)
          · have HB : Hid (rightB ws ps (X.map (fun x => x.1)) = false) := HF.out (by rw [HOK.out, hev])
            clear HF HTK HEK HOK ha hev
            go_wp2
            go_ret
            exact ⟨by rw [HB.out]; rfl, hBw2⟩
          · have HCN : Hid (chainB ws ps 0 ((X.map (fun x => x.1)).take (k + 1)) = true) := by show _ = _; rw [HTK.out, HOK.out, hev]
            clear HF HTK HOK ha hev
            go_wp2
            go_roundw
            case rel => exact ⟨k + 1, t, by omega, by go_num, rfl, hBw2, HCN, HEK⟩
            case measure => simp [intOf]; omega
      · have HB : Hid (rightB ws ps (X.map (fun x => x.1)) = false) := HF.out (by unfold okL; simp [e1])
        have q1 : (s != a) = true := by simpa using e1
        clear HF HTK HEK e1
        have hBw1 := hB.alloc hz (.cells #[I64 s, I64 t, .slice pv V.length cv] 121)
        go_wp2
        go_ret
        exact ⟨by rw [HB.out]; rfl, hBw1⟩
    · have hkn : k = X.length := by omega
      have hch := HCH.out
      have hen := HEN.out
      rw [List.take_of_length_le (by rw [HN.out]; omega)] at hch hen
      obtain ⟨x, hx⟩ : ∃ x, X[X.length - 1]? = some x := ⟨_, List.getElem?_eq_getElem (by omega)⟩
      have hls : lastS (X.map (fun x => x.1)) = x.1.s := by unfold lastS; rw [HN.out]; simp [hx]
      have hxL : (X.map (fun x => x.1))[(X.map (fun x => x.1)).length - 1]? = some x.1 := by rw [HN.out]; simp [hx]
      have hel : endL 0 (X.map (fun x => x.1)) = x.1.t := endL_last hxL
      have hct := (chain_of hT hch).t _ _ hxL
      have HFN : Hid (rightB ws ps (X.map (fun x => x.1)) = (ps[x.1.t.toNat]?.getD 0 == x.1.s)) := by show _ = _; rw [HRT.out, hch, hel, hls, Bool.true_and]
      rcases hLr.at' with h9 | ⟨gl, ol, rfl, hcs⟩
      · rw [h9] at hn1; simp at hn1
      obtain ⟨x0, x1, x2⟩ := hcs (X.length - 1) x hx
      obtain ⟨pv, cv, hxv, hiv, hvm⟩ := hLr.vs x (List.mem_of_getElem? hx)
      rw [hxv] at x2
      obtain ⟨⟨s, t, V⟩, u⟩ := x
      dsimp only at x0 x1 x2 hxv hiv hvm hct HFN
      have hks : (X.length : Int) - 1 = ((X.length - 1 : Nat) : Int) := by omega
      have hkm : X.length - 1 < X.length := by omega
      have hkm' : ((X.length - 1 : Nat) : Int) < (X.length : Int) := by omega
      clear hcs hx hxL hch hen hls hel HCH HEN HRT hLr hL hkn
      go_wp2_with fail
      obtain ⟨W1, hW1⟩ : ∃ W1, wr.alloc (.cells #[I64 s, I64 t, .slice pv V.length cv] 121) = W1 := ⟨_, rfl⟩
      have hB1 : Below wr.heap.size wr W1 := by rw [← hW1]; exact (Below.refl _ wr).alloc (Nat.le_refl _) _
      have hBw1 : Below w.heap.size w W1 := hB.trans (hB1.mono hz)
      have hip := isParent_at b o g cap ps s t W1 (hA.below hBw1 hlb hlg) (by omega) hct.2.1
      have htz : (t != 0) = true := by simp; omega
      rw [htz, Bool.true_and] at hip
      obtain ⟨q, hq⟩ : ∃ q, (ps[t.toNat]?.getD 0 == s) = q := ⟨_, rfl⟩
      rw [hq] at hip HFN
      clear hq
      rw [hW1]
      clear hW1 htz
      refine hip.mono ?_
      rintro e W2 ⟨rfl, hB2⟩
      clear hip hks
      go_wp2
      go_ret
      exact ⟨by rw [HFN.out]; rfl, hBw1.trans (hB2.mono hBw1.size)⟩

theorem shown_at (X : List LkV) (p : Option Addr) (c : Nat) (w : World) (hL : LkAt w p X) (hm : X.length ≤ 40) (h0 : 0 < X.length) :
    Calls Tryz.prog 101 #[.slice p X.length c] w fun e w' => e = .returned (.int .i64 (lastS (X.map (fun x => x.1)))) ∧ w' = w := by
  obtain ⟨x, hx⟩ : ∃ x, X[X.length - 1]? = some x := ⟨_, List.getElem?_eq_getElem (by omega)⟩
  have HLS : Hid (lastS (X.map (fun x => x.1)) = x.1.s) := by show _ = _; unfold lastS; simp [hx]
  rcases hL.at' with h9 | ⟨gl, ol, rfl, hcs⟩
  · rw [h9] at h0; simp at h0
  obtain ⟨x0, _, _⟩ := hcs (X.length - 1) x hx
  have hks : (X.length : Int) - 1 = ((X.length - 1 : Nat) : Int) := by omega
  have hkm : X.length - 1 < X.length := by omega
  have hkm' : ((X.length - 1 : Nat) : Int) < (X.length : Int) := by omega
  clear hcs hx
  go_enter Tryz.func101, Tryz.ntmps101
  go_wp2
  go_ret
  exact ⟨by rw [HLS.out]; rfl, rfl⟩

theorem agree_at (b o g cap : Nat) (ps : List Int) (hT : Tree ps) (x y : Int) (hx0 : 0 ≤ x) (hx1 : x.toNat < ps.length) (hy0 : 0 ≤ y) (hy1 : y.toNat < ps.length) (w : World) (hA : TreeAt w b o g cap ps) :
    Calls Tryz.prog 100 #[.pointer (some ⟨b, o, none⟩), .int .i64 x, .int .i64 y] w fun e w' => e = .returned (.bool (x == y || (ahead ps x y || ahead ps y x))) ∧ Below w.heap.size w w' := by
  have hlb := hA.lt_b
  have hlg := hA.lt_g hT.1
  have c1 := fun W hA => isAhead_at b o g cap ps hT x y hy0 hy1 W hA
  have c2 := fun W hA => isAhead_at b o g cap ps hT y x hx0 hx1 W hA
  cases hq : (x == y)
  · cases q1 : ahead ps x y
    · obtain ⟨q2, hq2⟩ : ∃ q2, ahead ps y x = q2 := ⟨_, rfl⟩
      rw [q1] at c1
      rw [hq2] at c2 ⊢
      clear q1 hq2
      go_enter Tryz.func100, Tryz.ntmps100
      go_wp2_with fail
      refine (c1 _ hA).mono ?_
      rintro e w1 ⟨rfl, hB1⟩
      go_wp2_with fail
      refine (c2 _ (hA.below hB1 hlb hlg)).mono ?_
      rintro e w2 ⟨rfl, hB2⟩
      go_wp2
      go_ret
      exact ⟨by cases q2 <;> rfl, hB1.trans (hB2.mono hB1.size)⟩
    · rw [q1] at c1
      clear q1 c2
      go_enter Tryz.func100, Tryz.ntmps100
      go_wp2_with fail
      refine (c1 _ hA).mono ?_
      rintro e w1 ⟨rfl, hB1⟩
      go_wp2
      go_ret
      exact ⟨rfl, hB1⟩
  · clear c1 c2
    go_enter Tryz.func100, Tryz.ntmps100
    go_wp2
    go_ret
    exact ⟨rfl, Below.refl _ _⟩
end Go.Proofs.YtgebcnnenhgkcaaGreat
/- Judge's own parts: the votes of a voter by a proof, a voter's guilt by two proofs. -/
namespace Go.Proofs.YtgebcnnenhgkcaaGreat
open Go.RowKit Go.Shelf

theorem indexI_at (pl : Option Addr) (cl : Nat) (l : List Int) (v : Int) (w : World) (hr : IntsAt w pl l) (hm : l.length ≤ maxLen) :
    Calls Tryz.prog 175 #[.slice pl l.length cl, .int .i64 v] w fun e w' => (∃ i : Int, e = .returned (.int .i64 i) ∧ decide (0 ≤ i) = hasV l v) ∧ w' = w := by
  have hml : l.length ≤ 9223372036854775807 := by unfold maxLen at hm; omega
  clear hm
  go_enter Tryz.func175, Tryz.ntmps175
  go_wp2
  go_loop [8] (fun i => ∃ k : Nat, k ≤ l.length ∧ i = .int .i64 k ∧ Hid (hasV (l.take k) v = false)) (fun i => l.length - (intOf i).toNat)
  case atStart => exact ⟨0, by omega, rfl, rfl⟩
  case round =>
    obtain ⟨k, hk, rfl, HV⟩ := hrel
    by_cases hlt : k < l.length
    · have hlt' : (k : Int) < (l.length : Int) := by omega
      rcases hr with rfl | ⟨gl, ol, rfl, hcl⟩
      · simp at hlt
      obtain ⟨y, hy⟩ : ∃ y, l[k]? = some y := ⟨_, List.getElem?_eq_getElem hlt⟩
      have hc : w.cell? ⟨gl, ol + k, none⟩ = some (I64 y) := by have := hcl k hlt; rw [hy] at this; exact this
      have HY : Hid (l[k]? = some y) := hy
      clear hcl hy
      by_cases e : v = y
      · have q : (v == y) = true := by simpa using e
        have HB : Hid (hasV l v = true) := by show _ = _; rw [hasV_iff, e]; exact List.mem_of_getElem? HY.out
        clear e
        go_wp2
        go_ret
        exact ⟨⟨_, rfl, by rw [HB.out]; simp⟩, rfl⟩
      · have q : (v == y) = false := by simpa using e
        have HB : Hid (hasV (l.take (k + 1)) v = false) := by
          show _ = _
          rw [List.take_add_one, HY.out]
          have h1 := HV.out
          unfold hasV at h1 ⊢
          rw [List.any_append, h1]
          simp [Ne.symm e]
        clear e
        go_wp2
        go_round
        case rel => exact ⟨k + 1, by omega, by go_num, HB⟩
        case measure => simp [intOf]; omega
    · have HB : Hid (hasV l v = false) := by have := HV.out; rw [List.take_of_length_le (by omega)] at this; exact this
      clear HV
      go_wp2
      go_ret
      exact ⟨⟨_, rfl, by rw [HB.out]; rfl⟩, rfl⟩
theorem containsI_at (pl : Option Addr) (cl : Nat) (l : List Int) (v : Int) (w : World) (hr : IntsAt w pl l) (hm : l.length ≤ maxLen) :
    Calls Tryz.prog 161 #[.slice pl l.length cl, .int .i64 v] w fun e w' => e = .returned (.bool (hasV l v)) ∧ w' = w := by
  go_enter Tryz.func161, Tryz.ntmps161
  go_wp2_with fail
  refine (indexI_at pl cl l v w hr hm).mono ?_
  rintro e w' ⟨⟨i, rfl, hi⟩, rfl⟩
  have Hi : Hid (decide (0 ≤ i) = hasV l v) := hi
  clear hi
  go_wp2
  go_ret
  exact ⟨by rw [← Hi.out]; rfl, rfl⟩

theorem ofL_take {L : List Lk} {k : Nat} {l : Lk} (v : Int) (h : L[k]? = some l) : ofL (L.take (k + 1)) v = ofL (L.take k) v ++ (if hasV l.vs v = true then [⟨v, l.s, l.t⟩] else []) := by
  rw [List.take_add_one, h]
  unfold ofL
  simp only [Option.toList_some, List.filter_append, List.map_append]
  congr 1
  by_cases e : hasV l.vs v = true <;> simp [e]
theorem ofL_length (L : List Lk) (v : Int) : (ofL L v).length ≤ L.length := by
  unfold ofL
  rw [List.length_map]
  exact List.length_filter_le _ _

set_option maxRecDepth 100000 in
set_option maxHeartbeats 2000000 in
theorem votesBy_at (X : List LkV) (p : Option Addr) (c : Nat) (u : Int) (w : World) (hL : LkAt w p X) (hm : X.length ≤ 40) :
    Calls Tryz.prog 147 #[.slice p X.length c, .int .i64 u] w fun e w' => (∃ v, e = .returned v ∧ w'.ownsRow w.heap.size 47 3 v (ofL (X.map (fun x => x.1)) u).length (vtRow (ofL (X.map (fun x => x.1)) u))) ∧ Below w.heap.size w w' := by
  obtain ⟨i0, hi, hz0, hz1, hz2⟩ := info_parts info_vote
  have HN : Hid ((X.map (fun x => x.1)).length = X.length) := by simp [Hid]
  go_enter Tryz.func147, Tryz.ntmps147
  go_wp2
  go_loopw [5, 10] (fun v i wr => ∃ k : Nat, k ≤ X.length ∧ i = .int .i64 k ∧ Below w.heap.size w wr ∧ wr.ownsRow w.heap.size 47 3 v (ofL ((X.map (fun x => x.1)).take k) u).length (vtRow (ofL ((X.map (fun x => x.1)).take k) u))) (fun _ i _ => X.length - (intOf i).toNat)
  case atStart => exact ⟨0, by omega, rfl, Below.refl _ _, World.ownsRow_nil _ _ _ _⟩
  case round =>
    obtain ⟨k, hk, rfl, hB, hown⟩ := hrel
    have hz := hB.size
    by_cases hlt : k < X.length
    · have hlt' : (k : Int) < (X.length : Int) := by omega
      have hLr := hL.below hB
      rcases hLr.at' with rfl | ⟨gl, ol, rfl, hcs⟩
      · simp at hlt
      obtain ⟨x, hx⟩ : ∃ x, X[k]? = some x := ⟨_, List.getElem?_eq_getElem hlt⟩
      obtain ⟨x0, x1, x2⟩ := hcs k x hx
      obtain ⟨pv, cv, hxv, hiv, hvm⟩ := hLr.vs x (List.mem_of_getElem? hx)
      rw [hxv] at x2
      have hxL : (X.map (fun x => x.1))[k]? = some x.1 := by simp [hx]
      have HT : Hid _ := ofL_take u hxL
      obtain ⟨⟨s, t, V⟩, u'⟩ := x
      dsimp only at x0 x1 x2 hxv hiv hvm HT
      obtain ⟨L, hLe⟩ : ∃ L, ofL ((X.map (fun x => x.1)).take k) u = L := ⟨_, rfl⟩
      have hll : L.length ≤ 40 := by rw [← hLe]; have := ofL_length ((X.map (fun x => x.1)).take k) u; simp at this; omega
      rw [hLe] at hown
      have HLe : Hid (ofL ((X.map (fun x => x.1)).take k) u = L) := hLe
      clear hLe hcs hx hxL hxv
      have hBn := hB.alloc hz (.cells #[I64 s, I64 t, .slice pv V.length cv] 121)
      have hB1 : Below wr.heap.size wr (wr.alloc (.cells #[I64 s, I64 t, .slice pv V.length cv] 121)) := (Below.refl _ wr).alloc (Nat.le_refl _) _
      have hco := containsI_at pv cv V u _ (hiv.below' hB1) hvm
      cases hh : hasV V u
      · have HE : Hid (ofL ((X.map (fun x => x.1)).take (k + 1)) u = L) := by show _ = _; rw [HT.out, HLe.out, hh]; simp
        rw [hh] at hco
        clear hh HT
        go_wp2_with fail
        refine hco.mono ?_
        rintro e w2 ⟨rfl, rfl⟩
        clear hco
        go_wp2
        go_roundw
        case rel => exact ⟨k + 1, by omega, by go_num, hBn, by rw [HE.out]; exact hown.alloc _⟩
        case measure => simp [intOf]; omega
      · have HE : Hid (ofL ((X.map (fun x => x.1)).take (k + 1)) u = L ++ [⟨u, s, t⟩]) := by show _ = _; rw [HT.out, HLe.out, hh]; simp
        rw [hh] at hco
        clear hh HT
        have h63 : Hid (L.length + 1 ≤ maxLen) := by show _ ≤ _; unfold maxLen; omega
        go_wp2_with fail
        refine hco.mono ?_
        rintro e w2 ⟨rfl, rfl⟩
        clear hco
        go_wp2_with (at_builtin; refine wpList_append_own _ (by rfl) _ _ _ (by rfl) w.heap.size 47 i0 (.agg #[I64 0, I64 0, I64 0]) 3 24 Tryz.underlying39 hi hz0 hz1 hz2 rfl (by omega) _ L.length (vtRow L) (by rfl) ((hown.alloc _).alloc _) ⟨wr.heap.size + 1, 0, none⟩ 1 1 [I64 u, I64 s, I64 t] (by rfl) (by rfl) (cells_two _ _ #[I64 u, I64 s, I64 t] _) (by simp [Value.oneCell']) h63.out (by omega) (by simp; omega) ?_; intro v1 w1 hown1 hgrow1 hnil1)
        go_roundw
        case rel => exact ⟨k + 1, by omega, by go_num, (hBn.alloc (by simp; omega) _).grown hgrow1 (by simp; omega) (fun j e => (hown.lt j e).1), by rw [HE.out, vtRow_append, List.length_append]; exact hown1⟩
        case measure => simp [intOf]; omega
    · have hkk : ofL ((X.map (fun x => x.1)).take k) u = ofL (X.map (fun x => x.1)) u := by rw [List.take_of_length_le (by rw [HN.out]; omega)]
      rw [hkk] at hown
      go_wp2
      go_ret
      exact ⟨⟨_, rfl, hown⟩, hB⟩

/-- All that two proofs are judged by, as it lies. -/
structure SuitAt (w : World) (b gw cw gp cp : Nat) (p1 p2 : Option Addr) (c1 c2 : Nat) (ws ps : List Int) (X Y : List LkV) : Prop where
  h0 : w.cell? ⟨b, 0, none⟩ = some (.slice (some ⟨gw, 0, none⟩) ws.length cw)
  ww : ∀ j, j < ws.length → w.cell? ⟨gw, j, none⟩ = some (I64 (ws[j]?.getD 0))
  tr : TreeAt w b 1 gp cp ps
  h2 : w.cell? ⟨b, 2, none⟩ = some (.slice p1 X.length c1)
  h3 : w.cell? ⟨b, 3, none⟩ = some (.slice p2 Y.length c2)
  one : LkAt w p1 X
  oth : LkAt w p2 Y
theorem SuitAt.below {w w' : World} {b gw cw gp cp : Nat} {p1 p2 : Option Addr} {c1 c2 : Nat} {ws ps : List Int} {X Y : List LkV} (h : SuitAt w b gw cw gp cp p1 p2 c1 c2 ws ps X Y) (hT : Tree ps) (hB : Below w.heap.size w w') : SuitAt w' b gw cw gp cp p1 p2 c1 c2 ws ps X Y :=
  ⟨(hB.cell (p := ⟨b, 0, none⟩) h.tr.lt_b).trans h.h0, fun j hj => (hB.cell (p := ⟨gw, j, none⟩) (World.block_lt_of_cell? w _ (h.ww j hj))).trans (h.ww j hj), h.tr.below hB h.tr.lt_b (h.tr.lt_g hT.1), (hB.cell (p := ⟨b, 2, none⟩) h.tr.lt_b).trans h.h2, (hB.cell (p := ⟨b, 3, none⟩) h.tr.lt_b).trans h.h3, h.one.below hB, h.oth.below hB⟩

theorem firstF_drop {K : Vt → Vt → Int} {L O : List Vt} {i : Nat} {x : Vt} (h : L[i]? = some x) : firstF K (L.drop i) O = match O.find? (fun y => decide (K x y ≠ 0)) with | some y => some (K x y, x, y) | none => firstF K (L.drop (i + 1)) O := by
  have hlt : i < L.length := (List.getElem?_eq_some_iff.1 h).1
  rw [List.drop_eq_getElem_cons hlt]
  have : L[i] = x := (List.getElem?_eq_some_iff.1 h).2
  rw [this]; rfl
theorem vlo_of {w : World} {base : Nat} {v : Value} {vs : List Vt} (h : w.ownsRow base 47 3 v vs.length (vtRow vs)) : ∃ p c, v = .slice p vs.length c ∧ VLiesO w p vs := by
  by_cases hp : 0 < vs.length
  · obtain ⟨g, cap, rfl, _, _, hc, _⟩ := vrow_open (row_low h) hp
    exact ⟨_, _, rfl, .inr ⟨g, 0, rfl, fun j x hj => by simpa using hc j x hj⟩⟩
  · have e : vs = [] := List.length_eq_zero_iff.1 (by omega)
    subst e
    rcases h.2 with ⟨rfl, hn⟩ | ⟨g, cap, cur, rfl, _⟩
    · exact ⟨none, 0, rfl, .inl rfl⟩
    · exact ⟨_, _, rfl, .inl rfl⟩

set_option maxRecDepth 100000 in
set_option maxHeartbeats 4000000 in
theorem sGuiltOf_at (b gw cw g0 cap0 : Nat) (p1 p2 : Option Addr) (c1 c2 : Nat) (ws ps : List Int) (X Y : List LkV) (u : Int) (w : World) (h : SuitAt w b gw cw g0 cap0 p1 p2 c1 c2 ws ps X Y) (hT : Tree ps) (hX : X.length ≤ 40) (hY : Y.length ≤ 40)
    (hbX : ∀ x ∈ X, OkB ps ⟨u, x.1.s, x.1.t⟩) (hbY : ∀ x ∈ Y, OkB ps ⟨u, x.1.s, x.1.t⟩) :
    Calls Tryz.prog 125 #[.pointer (some ⟨b, 0, none⟩), .int .i64 u] w fun e w' => e = .returned (.tuple #[guV (judgeV ps (X.map (fun x => x.1)) (Y.map (fun x => x.1)) u), .bool (judgeV ps (X.map (fun x => x.1)) (Y.map (fun x => x.1)) u).isSome]) ∧ Below w.heap.size w w' := by
  have hBa : Below w.heap.size w (w.alloc (.cells #[I64 0, I64 0, I64 0, I64 0, I64 0, I64 0, I64 0, I64 0] 84)) := (Below.refl _ w).alloc (Nat.le_refl _) _
  have ha := h.below hT hBa
  have h3 := ha.h3
  go_enter Tryz.func125, Tryz.ntmps125
  go_wp2_with fail
  obtain ⟨wa, hwa⟩ : ∃ wa, w.alloc (.cells #[I64 0, I64 0, I64 0, I64 0, I64 0, I64 0, I64 0, I64 0] 84) = wa := ⟨_, rfl⟩
  have hra : wa.heap[w.heap.size]? = some (.cells #[I64 0, I64 0, I64 0, I64 0, I64 0, I64 0, I64 0, I64 0] 84 (0, 0)) := by rw [← hwa]; exact heap_alloc_new w _
  have hza : wa.heap.size = w.heap.size + 1 := by rw [← hwa]; simp
  rw [hwa] at ha hBa ⊢
  clear hwa h3
  refine (votesBy_at Y p2 c2 u _ ha.oth hY).mono ?_
  rintro e wb ⟨⟨vo, rfl, hrowo⟩, hBb⟩
  have hb' := ha.below hT hBb
  have h2 := hb'.h2
  obtain ⟨pO, cO, rfl, hLO⟩ := vlo_of hrowo
  go_wp2_with fail
  refine (votesBy_at X p1 c1 u _ hb'.one hX).mono ?_
  rintro e w1 ⟨⟨v, rfl, hrow⟩, hB1'⟩
  have hB1 : Below wa.heap.size wa w1 := hBb.trans (hB1'.mono hBb.size)
  obtain ⟨O, hO⟩ : ∃ O, ofL (Y.map (fun x => x.1)) u = O := ⟨_, rfl⟩
  obtain ⟨L, hL⟩ : ∃ L, ofL (X.map (fun x => x.1)) u = L := ⟨_, rfl⟩
  rw [hL] at hrow
  rw [hO] at hLO ⊢
  have HG : Hid (judgeV ps (X.map (fun x => x.1)) (Y.map (fun x => x.1)) u = (firstF (kindI ps) L O).map fun p => ⟨u, p.1, p.2.1, p.2.2⟩) := by show _ = _; unfold judgeV; rw [hL, hO]
  have HM : Hid (∀ y ∈ L, y.v = u ∧ OkB ps y) := by
    show ∀ y ∈ L, _
    intro y hy
    rw [← hL, mem_ofL] at hy
    obtain ⟨l, hl, _, rfl⟩ := hy
    obtain ⟨x, hx, rfl⟩ := List.mem_map.1 hl
    exact ⟨rfl, hbX x hx⟩
  have HMO : Hid (∀ y ∈ O, y.v = u ∧ OkB ps y) := by
    show ∀ y ∈ O, _
    intro y hy
    rw [← hO, mem_ofL] at hy
    obtain ⟨l, hl, _, rfl⟩ := hy
    obtain ⟨x, hx, rfl⟩ := List.mem_map.1 hl
    exact ⟨rfl, hbY x hx⟩
  have hLl : L.length ≤ 40 := by rw [← hL]; have := ofL_length (X.map (fun x => x.1)) u; simp at this; omega
  have hOl : O.length ≤ 40 := by rw [← hO]; have := ofL_length (Y.map (fun x => x.1)) u; simp at this; omega
  have hLx : VLiesO w1 pO O := VLiesO.below hLO hB1'
  clear hL hO hLO hrowo
  obtain ⟨vp, vc, hvv⟩ : ∃ vp vc, v = .slice vp L.length vc := by
    rcases hrow.2 with ⟨h', h''⟩ | ⟨g, cap, cur, h', _⟩
    · exact ⟨none, 0, by rw [h', h'']⟩
    · exact ⟨_, _, h'⟩
  subst hvv
  have h1 := ha.below hT hB1
  have hr1 : w1.heap[w.heap.size]? = some (.cells #[I64 0, I64 0, I64 0, I64 0, I64 0, I64 0, I64 0, I64 0] 84 (0, 0)) := (hB1.block _ (by omega)).trans hra
  have hz1 := hB1.size
  have hBw : Below w.heap.size w w1 := hBa.trans (hB1.mono hBa.size)
  have hA := h1.tr
  have hlb := hA.lt_b
  have hlg := hA.lt_g hT.1
  have HBX : Hid _ := hbX
  have HBY : Hid _ := hbY
  clear hra h2 hb' hbX hbY
  go_wp2
  go_loopw [24] (fun ii wr => ∃ i : Nat, i ≤ L.length ∧ ii = .int .i64 i ∧ Below w1.heap.size w1 wr ∧ Hid (firstF (kindI ps) L O = firstF (kindI ps) (L.drop i) O)) (fun ii _ => L.length - (intOf ii).toNat)
  case atStart => exact ⟨0, by omega, rfl, Below.refl _ _, by simp [Hid]⟩
  case round =>
    obtain ⟨i, hi, rfl, hB, hP⟩ := hrel
    by_cases hlt : i < L.length
    · have hlt' : (i : Int) < (L.length : Int) := by omega
      obtain ⟨gv, cap, hgv, hcap, hcapm, hc, _⟩ := vrow_open (row_low hrow) (by omega)
      simp only [Value.slice.injEq, true_and] at hgv
      obtain ⟨rfl, rfl⟩ := hgv
      have hgl : gv < w1.heap.size := VCells.lt hc (by omega)
      obtain ⟨x, hx⟩ : ∃ x, L[i]? = some x := ⟨_, List.getElem?_eq_getElem hlt⟩
      obtain ⟨hc0, hc1, hc2⟩ := VCells.below hc hB hgl i x hx
      obtain ⟨hxv, hxb⟩ := HM.out x (List.mem_of_getElem? hx)
      have HP : Hid _ := firstF_drop (K := kindI ps) (O := O) hx
      have hMd : ∀ y ∈ O, x.v = y.v ∧ OkB ps y := fun y hy => by
        obtain ⟨h1, h2⟩ := HMO.out y hy
        exact ⟨hxv.trans h1.symm, h2⟩
      have hfa := fun W hA hL => first_at b 1 g0 cap0 ps hT x O pO cO W hA hxb hMd hL (by omega)
      have HX : Hid (x.v = u) := hxv
      clear hc hx hxv hMd
      have hwrz := hB.size
      go_wp2
      obtain ⟨wx, hwx⟩ : ∃ wx, wr.alloc (.cells #[I64 x.v, I64 x.s, I64 x.t] 47) = wx := ⟨_, rfl⟩
      have hBx : Below w1.heap.size w1 wx := by rw [← hwx]; exact hB.alloc hwrz _
      have hxz : wx.heap.size = wr.heap.size + 1 := by rw [← hwx]; simp
      have hxo : wx.heap[wr.heap.size]? = some (.cells #[I64 x.v, I64 x.s, I64 x.t] 47 (0, 0)) := by rw [← hwx]; exact heap_alloc_new wr _
      obtain ⟨nx, hnx⟩ : ∃ n, wr.heap.size = n := ⟨_, rfl⟩
      rw [hwx, hnx]
      rw [hnx] at hxz hxo hwrz
      clear hwx hc0 hc1 hc2 hnx hB
      have d0 : wx.cell? ⟨nx, 0, none⟩ = some (I64 x.v) := by rw [cell_of_heap hxo]; rfl
      have d1 : wx.cell? ⟨nx, 1, none⟩ = some (I64 x.s) := by rw [cell_of_heap hxo]; rfl
      have d2 : wx.cell? ⟨nx, 2, none⟩ = some (I64 x.t) := by rw [cell_of_heap hxo]; rfl
      clear hxo
      refine wp_region_held_drew (S := fun w' => w'.cell? ⟨nx, 0, none⟩ = some (I64 x.v) ∧ w'.cell? ⟨nx, 1, none⟩ = some (I64 x.s) ∧ w'.cell? ⟨nx, 2, none⟩ = some (I64 x.t)) (by kernel_rfl) ⟨d0, d1, d2⟩ (fun hHeld => ?_)
      refine takeH (i := 0) (v := ?vv1) rfl (by kernel_rfl) (by kernel_rfl) (by kernel_rfl) (fun _ _ _ h => h) (Or.inl ⟨by rfl, ?hy1⟩) (by assumption) ?rest1
      case hy1 => (intro w hSw; (try dsimp only at hSw); go_simp; try with_reducible rfl)
      try simp only [Act.put, List.setIfInBounds_toArray, List.set_cons_zero, List.set_cons_succ]
      refine takeH (i := 1) (v := ?vv2) rfl (by kernel_rfl) (by kernel_rfl) (by kernel_rfl) (fun _ _ _ h => h) (Or.inl ⟨by rfl, ?hy2⟩) (by assumption) ?rest2
      case hy2 => (intro w hSw; (try dsimp only at hSw); go_simp; try with_reducible rfl)
      try simp only [Act.put, List.setIfInBounds_toArray, List.set_cons_zero, List.set_cons_succ]
      refine takeH (i := 2) (v := ?vv3) rfl (by kernel_rfl) (by kernel_rfl) (by kernel_rfl) (fun _ _ _ h => h) (Or.inl ⟨by rfl, ?hy3⟩) (by assumption) ?rest3
      case hy3 => (intro w hSw; (try dsimp only at hSw); go_simp; try with_reducible rfl)
      try simp only [Act.put, List.setIfInBounds_toArray, List.set_cons_zero, List.set_cons_succ]
      refine takeH (i := 3) (v := ?vv4) rfl (by kernel_rfl) (by kernel_rfl) (by kernel_rfl) (fun _ _ _ h => h) (Or.inl ⟨by rfl, ?hy4⟩) (by assumption) ?rest4
      case hy4 => (intro w hSw; (try dsimp only at hSw); go_simp; try with_reducible rfl)
      try simp only [Act.put, List.setIfInBounds_toArray, List.set_cons_zero, List.set_cons_succ]
      refine takeH (i := 4) (v := ?vv5) rfl (by kernel_rfl) (by kernel_rfl) (by kernel_rfl) (fun _ _ _ h => h) (Or.inl ⟨by rfl, ?hy5⟩) (by assumption) ?rest5
      case hy5 => (intro w hSw; (try dsimp only at hSw); go_simp; try with_reducible rfl)
      try simp only [Act.put, List.setIfInBounds_toArray, List.set_cons_zero, List.set_cons_succ]
      cases hfg : firstG ps x O with
      | none =>
        have HP' : Hid (firstF (kindI ps) L O = firstF (kindI ps) (L.drop (i + 1)) O) := by
          have hn : O.find? (fun y => decide (kindI ps x y ≠ 0)) = none := by
            cases hq : O.find? (fun y => decide (kindI ps x y ≠ 0)) with
            | none => rfl
            | some y => unfold firstG at hfg; rw [hq] at hfg; cases hfg
          show _ = _
          rw [hP.out, HP.out, hn]
        rw [hfg] at hfa
        clear hfg HP hP
        refine wpAnyH_ready (rs := [5, 9]) (by kernel_rfl) (by simp) ?_
        refine AllReadyH.cons (nthO_at rfl) (fun K hK => ?_) ?_
        · rw [if_pos (by rfl)]
          have HK : Hid _ := hK.out
          clear hK
          have hBV : Below w1.heap.size w1 wx.drew := hBx.drew
          go_simp
          refine (hfa _ (hA.below hBV hlb hlg) (VLiesO.below hLx hBV)).mono ?_
          rintro e V2 ⟨rfl, hB2⟩
          have hzV := hBV.size
          have hBV2 : Below w1.heap.size w1 V2 := hBV.trans (hB2.mono hzV)
          have e0 : V2.cell? ⟨nx, 0, none⟩ = some (I64 x.v) ∧ V2.cell? ⟨nx, 1, none⟩ = some (I64 x.s) ∧ V2.cell? ⟨nx, 2, none⟩ = some (I64 x.t) := ⟨(hB2.cell (p := ⟨nx, 0, none⟩) (by simp; omega)).trans d0, (hB2.cell (p := ⟨nx, 1, none⟩) (by simp; omega)).trans d1, (hB2.cell (p := ⟨nx, 2, none⟩) (by simp; omega)).trans d2⟩
          clear hHeld hfa
          refine HK.out _ _ e0 (fun hHeld => ?_)
          clear HK K
          try simp only [Act.put, List.setIfInBounds_toArray, List.set_cons_zero, List.set_cons_succ]
          refine takeH (i := 6) (v := ?vv6) rfl (by kernel_rfl) (by kernel_rfl) (by kernel_rfl) (fun _ _ _ h => h) (Or.inl ⟨by rfl, ?hy6⟩) (by assumption) ?rest6
          case hy6 => (intro w hSw; (try dsimp only at hSw); go_simp; try with_reducible rfl)
          try simp only [Act.put, List.setIfInBounds_toArray, List.set_cons_zero, List.set_cons_succ]
          refine takeH (i := 7) (v := ?vv7) rfl (by kernel_rfl) (by kernel_rfl) (by kernel_rfl) (fun _ _ _ h => h) (Or.inl ⟨by rfl, ?hy7⟩) (by assumption) ?rest7
          case hy7 => (intro w hSw; (try dsimp only at hSw); go_simp; try with_reducible rfl)
          try simp only [Act.put, List.setIfInBounds_toArray, List.set_cons_zero, List.set_cons_succ]
          refine takeH (i := 8) (v := ?vv8) rfl (by kernel_rfl) (by kernel_rfl) (by kernel_rfl) (fun _ _ _ h => h) (Or.inl ⟨by rfl, ?hy8⟩) (by assumption) ?rest8
          case hy8 => (intro w hSw; (try dsimp only at hSw); go_simp; try with_reducible rfl)
          try simp only [Act.put, List.setIfInBounds_toArray, List.set_cons_zero, List.set_cons_succ]
          refine doneH (i := 9) rfl (by kernel_rfl) (by rfl) (fun K hK => ?_)
          have HK : Hid _ := hK
          clear hK
          go_simp
          obtain ⟨V, hV⟩ : ∃ V, V2.alloc (.cells #[I64 0, I64 0, I64 0, I64 0, I64 0, I64 0, I64 0, I64 0] 84) = V := ⟨_, rfl⟩
          have hVo : V.heap[V2.heap.size]? = some (.cells #[I64 0, I64 0, I64 0, I64 0, I64 0, I64 0, I64 0, I64 0] 84 (0, 0)) := by rw [← hV]; exact heap_alloc_new V2 _
          have hBp : Below w1.heap.size w1 V := by rw [← hV]; exact hBV2.alloc hBV2.size _
          have hpl : w1.heap.size ≤ V2.heap.size := hBV2.size
          have e1 : V.cell? ⟨nx, 0, none⟩ = some (I64 x.v) ∧ V.cell? ⟨nx, 1, none⟩ = some (I64 x.s) ∧ V.cell? ⟨nx, 2, none⟩ = some (I64 x.t) := by have hb : Below V2.heap.size V2 V := (by rw [← hV]; exact (Below.refl _ V2).alloc (Nat.le_refl _) _); have hnl : nx < V2.heap.size := World.block_lt_of_cell? V2 _ e0.1; exact ⟨(hb.cell (p := ⟨nx, 0, none⟩) hnl).trans e0.1, (hb.cell (p := ⟨nx, 1, none⟩) hnl).trans e0.2.1, (hb.cell (p := ⟨nx, 2, none⟩) hnl).trans e0.2.2⟩
          have hpx : V2.heap.size ≠ nx := by have := World.block_lt_of_cell? V2 _ e0.1; dsimp only at this; omega
          rw [hV]
          clear hHeld e0
          refine HK.out _ _ e1 (fun hHeld => ?_)
          clear HK K
          try simp only [Act.put, List.setIfInBounds_toArray, List.set_cons_zero, List.set_cons_succ]
          generalize V2.heap.size = pp at hVo hpl hpx ⊢
          clear hV hBV2 hzV
          have fz : ∀ o, V.frozen? ⟨pp, o, none⟩ = false := fun o => frozen_of_heap hVo o
          obtain ⟨z0, z1, z2, z3, z4, z5, z6, z7⟩ := eight_cells hVo
          refine doneH (i := 10) rfl (by kernel_rfl) (by rfl) (fun K hK => ?_)
          have HK : Hid _ := hK
          clear hK
          go_simp
          have h8 := put8_heap hVo (I64 0) (I64 0) (I64 0) (I64 0) (I64 0) (I64 0) (I64 0) (I64 0)
          have hBq := put8_below hBp hpl (I64 0) (I64 0) (I64 0) (I64 0) (I64 0) (I64 0) (I64 0) (I64 0)
          have e2 : (put8 V pp (I64 0) (I64 0) (I64 0) (I64 0) (I64 0) (I64 0) (I64 0) (I64 0)).cell? ⟨nx, 0, none⟩ = some (I64 x.v) ∧ (put8 V pp (I64 0) (I64 0) (I64 0) (I64 0) (I64 0) (I64 0) (I64 0) (I64 0)).cell? ⟨nx, 1, none⟩ = some (I64 x.s) ∧ (put8 V pp (I64 0) (I64 0) (I64 0) (I64 0) (I64 0) (I64 0) (I64 0) (I64 0)).cell? ⟨nx, 2, none⟩ = some (I64 x.t) := by
            unfold put8
            refine ⟨?_, ?_, ?_⟩ <;> repeat (rw [World.cell?_setCell_other _ _ _ _ (by first | (simp; done) | (simp; omega))])
            · exact e1.1
            · exact e1.2.1
            · exact e1.2.2
          have hfold : put8 V pp (I64 0) (I64 0) (I64 0) (I64 0) (I64 0) (I64 0) (I64 0) (I64 0) = (((((((V.setCell ⟨pp, 0, none⟩ (I64 0)).setCell ⟨pp, 1, none⟩ (I64 0)).setCell ⟨pp, 2, none⟩ (I64 0)).setCell ⟨pp, 3, none⟩ (I64 0)).setCell ⟨pp, 4, none⟩ (I64 0)).setCell ⟨pp, 5, none⟩ (I64 0)).setCell ⟨pp, 6, none⟩ (I64 0)).setCell ⟨pp, 7, none⟩ (I64 0) := rfl
          rw [← hfold]
          clear hfold
          generalize put8 V pp (I64 0) (I64 0) (I64 0) (I64 0) (I64 0) (I64 0) (I64 0) (I64 0) = YW at h8 hBq e2 ⊢
          clear hHeld e1 fz z0 z1 z2 z3 z4 z5 z6 z7 hVo hBp
          refine HK.out _ _ e2 (fun hHeld => ?_)
          clear HK K
          try simp only [Act.put, List.setIfInBounds_toArray, List.set_cons_zero, List.set_cons_succ]
          refine takeH (i := 11) (v := ?vv9) rfl (by kernel_rfl) (by kernel_rfl) (by kernel_rfl) (fun _ _ _ h => h) (Or.inl ⟨by rfl, ?hy9⟩) (by assumption) ?rest9
          case hy9 => (intro w hSw; (try dsimp only at hSw); go_simp; try with_reducible rfl)
          try simp only [Act.put, List.setIfInBounds_toArray, List.set_cons_zero, List.set_cons_succ]
          clear hHeld e2
          refine wpAnyH_done (by kernel_rfl) ?_ _
          clear h8
          go_wp2
          go_roundw
          case rel => exact ⟨i + 1, by omega, by go_num, hBq, HP'⟩
          case measure => simp [intOf]; omega
        refine AllReadyH.cons (nthO_at rfl) (fun K hK => ?_) ?_
        · rw [if_pos (by rfl)]
          have HK : Hid _ := hK.out
          clear hK
          go_simp
          obtain ⟨V1, hV⟩ : ∃ V, (wx.alloc (.cells #[I64 0, I64 0, I64 0, I64 0, I64 0, I64 0, I64 0, I64 0] 84)).drew = V := ⟨_, rfl⟩
          have hVo1 : V1.heap[nx + 1]? = some (.cells #[I64 0, I64 0, I64 0, I64 0, I64 0, I64 0, I64 0, I64 0] 84 (0, 0)) := by rw [← hV, ← hxz]; exact heap_alloc_new wx _
          have hBV : Below w1.heap.size w1 V1 := by rw [← hV]; exact (hBx.alloc hBx.size _).drew
          have hvz : V1.heap.size = nx + 1 + 1 := by rw [← hV, ← hxz]; simp
          have hpl : w1.heap.size ≤ nx + 1 := by rw [← hxz]; exact hBx.size
          have e0 : V1.cell? ⟨nx, 0, none⟩ = some (I64 x.v) ∧ V1.cell? ⟨nx, 1, none⟩ = some (I64 x.s) ∧ V1.cell? ⟨nx, 2, none⟩ = some (I64 x.t) := by have hb : Below wx.heap.size wx V1 := (by rw [← hV]; exact ((Below.refl wx.heap.size wx).alloc (Nat.le_refl _) _).drew); exact ⟨(hb.cell (p := ⟨nx, 0, none⟩) (by dsimp only; omega)).trans d0, (hb.cell (p := ⟨nx, 1, none⟩) (by dsimp only; omega)).trans d1, (hb.cell (p := ⟨nx, 2, none⟩) (by dsimp only; omega)).trans d2⟩
          have hpx : nx + 1 ≠ nx := by omega
          rw [hV]
          clear hHeld hV
          refine HK.out _ _ e0 (fun hHeld => ?_)
          clear HK K
          try simp only [Act.put, List.setIfInBounds_toArray, List.set_cons_zero, List.set_cons_succ]
          refine doneH (i := 5) rfl (by kernel_rfl) (by rfl) (fun K hK => ?_)
          have HK : Hid _ := hK
          clear hK
          go_simp
          refine (hfa _ (hA.below hBV hlb hlg) (VLiesO.below hLx hBV)).mono ?_
          rintro e V2 ⟨rfl, hB2⟩
          have hzV := hBV.size
          have hBV2 : Below w1.heap.size w1 V2 := hBV.trans (hB2.mono hzV)
          have hVo : V2.heap[nx + 1]? = some (.cells #[I64 0, I64 0, I64 0, I64 0, I64 0, I64 0, I64 0, I64 0] 84 (0, 0)) := (hB2.block _ (by omega)).trans hVo1
          have e1 : V2.cell? ⟨nx, 0, none⟩ = some (I64 x.v) ∧ V2.cell? ⟨nx, 1, none⟩ = some (I64 x.s) ∧ V2.cell? ⟨nx, 2, none⟩ = some (I64 x.t) := ⟨(hB2.cell (p := ⟨nx, 0, none⟩) (by dsimp only; omega)).trans e0.1, (hB2.cell (p := ⟨nx, 1, none⟩) (by dsimp only; omega)).trans e0.2.1, (hB2.cell (p := ⟨nx, 2, none⟩) (by dsimp only; omega)).trans e0.2.2⟩
          have hBp := hBV2
          clear hHeld hfa hVo1 e0 hBV2
          refine HK.out _ _ e1 (fun hHeld => ?_)
          clear HK K
          try simp only [Act.put, List.setIfInBounds_toArray, List.set_cons_zero, List.set_cons_succ]
          refine takeH (i := 6) (v := ?vv10) rfl (by kernel_rfl) (by kernel_rfl) (by kernel_rfl) (fun _ _ _ h => h) (Or.inl ⟨by rfl, ?hy10⟩) (by assumption) ?rest10
          case hy10 => (intro w hSw; (try dsimp only at hSw); go_simp; try with_reducible rfl)
          try simp only [Act.put, List.setIfInBounds_toArray, List.set_cons_zero, List.set_cons_succ]
          refine takeH (i := 7) (v := ?vv11) rfl (by kernel_rfl) (by kernel_rfl) (by kernel_rfl) (fun _ _ _ h => h) (Or.inl ⟨by rfl, ?hy11⟩) (by assumption) ?rest11
          case hy11 => (intro w hSw; (try dsimp only at hSw); go_simp; try with_reducible rfl)
          try simp only [Act.put, List.setIfInBounds_toArray, List.set_cons_zero, List.set_cons_succ]
          refine takeH (i := 8) (v := ?vv12) rfl (by kernel_rfl) (by kernel_rfl) (by kernel_rfl) (fun _ _ _ h => h) (Or.inl ⟨by rfl, ?hy12⟩) (by assumption) ?rest12
          case hy12 => (intro w hSw; (try dsimp only at hSw); go_simp; try with_reducible rfl)
          try simp only [Act.put, List.setIfInBounds_toArray, List.set_cons_zero, List.set_cons_succ]
          generalize nx + 1 = pp at hVo hpl hpx ⊢
          generalize V2 = V at hVo hBp e1 hHeld ⊢
          clear hzV
          have fz : ∀ o, V.frozen? ⟨pp, o, none⟩ = false := fun o => frozen_of_heap hVo o
          obtain ⟨z0, z1, z2, z3, z4, z5, z6, z7⟩ := eight_cells hVo
          refine doneH (i := 10) rfl (by kernel_rfl) (by rfl) (fun K hK => ?_)
          have HK : Hid _ := hK
          clear hK
          go_simp
          have h8 := put8_heap hVo (I64 0) (I64 0) (I64 0) (I64 0) (I64 0) (I64 0) (I64 0) (I64 0)
          have hBq := put8_below hBp hpl (I64 0) (I64 0) (I64 0) (I64 0) (I64 0) (I64 0) (I64 0) (I64 0)
          have e2 : (put8 V pp (I64 0) (I64 0) (I64 0) (I64 0) (I64 0) (I64 0) (I64 0) (I64 0)).cell? ⟨nx, 0, none⟩ = some (I64 x.v) ∧ (put8 V pp (I64 0) (I64 0) (I64 0) (I64 0) (I64 0) (I64 0) (I64 0) (I64 0)).cell? ⟨nx, 1, none⟩ = some (I64 x.s) ∧ (put8 V pp (I64 0) (I64 0) (I64 0) (I64 0) (I64 0) (I64 0) (I64 0) (I64 0)).cell? ⟨nx, 2, none⟩ = some (I64 x.t) := by
            unfold put8
            refine ⟨?_, ?_, ?_⟩ <;> repeat (rw [World.cell?_setCell_other _ _ _ _ (by first | (simp; done) | (simp; omega))])
            · exact e1.1
            · exact e1.2.1
            · exact e1.2.2
          have hfold : put8 V pp (I64 0) (I64 0) (I64 0) (I64 0) (I64 0) (I64 0) (I64 0) (I64 0) = (((((((V.setCell ⟨pp, 0, none⟩ (I64 0)).setCell ⟨pp, 1, none⟩ (I64 0)).setCell ⟨pp, 2, none⟩ (I64 0)).setCell ⟨pp, 3, none⟩ (I64 0)).setCell ⟨pp, 4, none⟩ (I64 0)).setCell ⟨pp, 5, none⟩ (I64 0)).setCell ⟨pp, 6, none⟩ (I64 0)).setCell ⟨pp, 7, none⟩ (I64 0) := rfl
          rw [← hfold]
          clear hfold
          generalize put8 V pp (I64 0) (I64 0) (I64 0) (I64 0) (I64 0) (I64 0) (I64 0) (I64 0) = YW at h8 hBq e2 ⊢
          clear hHeld e1 fz z0 z1 z2 z3 z4 z5 z6 z7 hVo hBp
          refine HK.out _ _ e2 (fun hHeld => ?_)
          clear HK K
          try simp only [Act.put, List.setIfInBounds_toArray, List.set_cons_zero, List.set_cons_succ]
          refine takeH (i := 11) (v := ?vv13) rfl (by kernel_rfl) (by kernel_rfl) (by kernel_rfl) (fun _ _ _ h => h) (Or.inl ⟨by rfl, ?hy13⟩) (by assumption) ?rest13
          case hy13 => (intro w hSw; (try dsimp only at hSw); go_simp; try with_reducible rfl)
          try simp only [Act.put, List.setIfInBounds_toArray, List.set_cons_zero, List.set_cons_succ]
          clear hHeld e2
          refine wpAnyH_done (by kernel_rfl) ?_ _
          clear h8
          go_wp2
          go_roundw
          case rel => exact ⟨i + 1, by omega, by go_num, hBq, HP'⟩
          case measure => simp [intOf]; omega
        exact AllReadyH.nil
      | some gu =>
        have HR : Hid (judgeV ps (X.map (fun x => x.1)) (Y.map (fun x => x.1)) u = some gu) := by
          cases hq : O.find? (fun y => decide (kindI ps x y ≠ 0)) with
          | none => unfold firstG at hfg; rw [hq] at hfg; cases hfg
          | some y =>
            unfold firstG at hfg
            rw [hq] at hfg
            simp only [Option.map_some, Option.some.injEq] at hfg
            show _ = _
            rw [HG.out, hP.out, HP.out, hq, ← hfg, HX.out]
            rfl
        rw [hfg] at hfa
        clear hfg HP hP
        refine wpAnyH_ready (rs := [5, 9]) (by kernel_rfl) (by simp) ?_
        refine AllReadyH.cons (nthO_at rfl) (fun K hK => ?_) ?_
        · rw [if_pos (by rfl)]
          have HK : Hid _ := hK.out
          clear hK
          have hBV : Below w1.heap.size w1 wx.drew := hBx.drew
          go_simp
          refine (hfa _ (hA.below hBV hlb hlg) (VLiesO.below hLx hBV)).mono ?_
          rintro e V2 ⟨rfl, hB2⟩
          have hzV := hBV.size
          have hBV2 : Below w1.heap.size w1 V2 := hBV.trans (hB2.mono hzV)
          have e0 : V2.cell? ⟨nx, 0, none⟩ = some (I64 x.v) ∧ V2.cell? ⟨nx, 1, none⟩ = some (I64 x.s) ∧ V2.cell? ⟨nx, 2, none⟩ = some (I64 x.t) := ⟨(hB2.cell (p := ⟨nx, 0, none⟩) (by simp; omega)).trans d0, (hB2.cell (p := ⟨nx, 1, none⟩) (by simp; omega)).trans d1, (hB2.cell (p := ⟨nx, 2, none⟩) (by simp; omega)).trans d2⟩
          clear hHeld hfa
          refine HK.out _ _ e0 (fun hHeld => ?_)
          clear HK K
          try simp only [Act.put, List.setIfInBounds_toArray, List.set_cons_zero, List.set_cons_succ]
          refine takeH (i := 6) (v := ?vv14) rfl (by kernel_rfl) (by kernel_rfl) (by kernel_rfl) (fun _ _ _ h => h) (Or.inl ⟨by rfl, ?hy14⟩) (by assumption) ?rest14
          case hy14 => (intro w hSw; (try dsimp only at hSw); go_simp; try with_reducible rfl)
          try simp only [Act.put, List.setIfInBounds_toArray, List.set_cons_zero, List.set_cons_succ]
          refine takeH (i := 7) (v := ?vv15) rfl (by kernel_rfl) (by kernel_rfl) (by kernel_rfl) (fun _ _ _ h => h) (Or.inl ⟨by rfl, ?hy15⟩) (by assumption) ?rest15
          case hy15 => (intro w hSw; (try dsimp only at hSw); go_simp; try with_reducible rfl)
          try simp only [Act.put, List.setIfInBounds_toArray, List.set_cons_zero, List.set_cons_succ]
          refine takeH (i := 8) (v := ?vv16) rfl (by kernel_rfl) (by kernel_rfl) (by kernel_rfl) (fun _ _ _ h => h) (Or.inl ⟨by rfl, ?hy16⟩) (by assumption) ?rest16
          case hy16 => (intro w hSw; (try dsimp only at hSw); go_simp; try with_reducible rfl)
          try simp only [Act.put, List.setIfInBounds_toArray, List.set_cons_zero, List.set_cons_succ]
          refine doneH (i := 9) rfl (by kernel_rfl) (by rfl) (fun K hK => ?_)
          have HK : Hid _ := hK
          clear hK
          go_simp
          obtain ⟨V, hV⟩ : ∃ V, V2.alloc (.cells #[I64 0, I64 0, I64 0, I64 0, I64 0, I64 0, I64 0, I64 0] 84) = V := ⟨_, rfl⟩
          have hVo : V.heap[V2.heap.size]? = some (.cells #[I64 0, I64 0, I64 0, I64 0, I64 0, I64 0, I64 0, I64 0] 84 (0, 0)) := by rw [← hV]; exact heap_alloc_new V2 _
          have hBp : Below w1.heap.size w1 V := by rw [← hV]; exact hBV2.alloc hBV2.size _
          have hpl : w1.heap.size ≤ V2.heap.size := hBV2.size
          have e1 : V.cell? ⟨nx, 0, none⟩ = some (I64 x.v) ∧ V.cell? ⟨nx, 1, none⟩ = some (I64 x.s) ∧ V.cell? ⟨nx, 2, none⟩ = some (I64 x.t) := by have hb : Below V2.heap.size V2 V := (by rw [← hV]; exact (Below.refl _ V2).alloc (Nat.le_refl _) _); have hnl : nx < V2.heap.size := World.block_lt_of_cell? V2 _ e0.1; exact ⟨(hb.cell (p := ⟨nx, 0, none⟩) hnl).trans e0.1, (hb.cell (p := ⟨nx, 1, none⟩) hnl).trans e0.2.1, (hb.cell (p := ⟨nx, 2, none⟩) hnl).trans e0.2.2⟩
          have hpx : V2.heap.size ≠ nx := by have := World.block_lt_of_cell? V2 _ e0.1; dsimp only at this; omega
          rw [hV]
          clear hHeld e0
          refine HK.out _ _ e1 (fun hHeld => ?_)
          clear HK K
          try simp only [Act.put, List.setIfInBounds_toArray, List.set_cons_zero, List.set_cons_succ]
          generalize V2.heap.size = pp at hVo hpl hpx ⊢
          clear hV hBV2 hzV
          have fz : ∀ o, V.frozen? ⟨pp, o, none⟩ = false := fun o => frozen_of_heap hVo o
          obtain ⟨z0, z1, z2, z3, z4, z5, z6, z7⟩ := eight_cells hVo
          refine doneH (i := 10) rfl (by kernel_rfl) (by rfl) (fun K hK => ?_)
          have HK : Hid _ := hK
          clear hK
          go_simp
          have h8 := put8_heap hVo (I64 gu.v) (I64 gu.k) (I64 gu.a.v) (I64 gu.a.s) (I64 gu.a.t) (I64 gu.b.v) (I64 gu.b.s) (I64 gu.b.t)
          have hBq := put8_below hBp hpl (I64 gu.v) (I64 gu.k) (I64 gu.a.v) (I64 gu.a.s) (I64 gu.a.t) (I64 gu.b.v) (I64 gu.b.s) (I64 gu.b.t)
          have e2 : (put8 V pp (I64 gu.v) (I64 gu.k) (I64 gu.a.v) (I64 gu.a.s) (I64 gu.a.t) (I64 gu.b.v) (I64 gu.b.s) (I64 gu.b.t)).cell? ⟨nx, 0, none⟩ = some (I64 x.v) ∧ (put8 V pp (I64 gu.v) (I64 gu.k) (I64 gu.a.v) (I64 gu.a.s) (I64 gu.a.t) (I64 gu.b.v) (I64 gu.b.s) (I64 gu.b.t)).cell? ⟨nx, 1, none⟩ = some (I64 x.s) ∧ (put8 V pp (I64 gu.v) (I64 gu.k) (I64 gu.a.v) (I64 gu.a.s) (I64 gu.a.t) (I64 gu.b.v) (I64 gu.b.s) (I64 gu.b.t)).cell? ⟨nx, 2, none⟩ = some (I64 x.t) := by
            unfold put8
            refine ⟨?_, ?_, ?_⟩ <;> repeat (rw [World.cell?_setCell_other _ _ _ _ (by first | (simp; done) | (simp; omega))])
            · exact e1.1
            · exact e1.2.1
            · exact e1.2.2
          have hfold : put8 V pp (I64 gu.v) (I64 gu.k) (I64 gu.a.v) (I64 gu.a.s) (I64 gu.a.t) (I64 gu.b.v) (I64 gu.b.s) (I64 gu.b.t) = (((((((V.setCell ⟨pp, 0, none⟩ (I64 gu.v)).setCell ⟨pp, 1, none⟩ (I64 gu.k)).setCell ⟨pp, 2, none⟩ (I64 gu.a.v)).setCell ⟨pp, 3, none⟩ (I64 gu.a.s)).setCell ⟨pp, 4, none⟩ (I64 gu.a.t)).setCell ⟨pp, 5, none⟩ (I64 gu.b.v)).setCell ⟨pp, 6, none⟩ (I64 gu.b.s)).setCell ⟨pp, 7, none⟩ (I64 gu.b.t) := rfl
          rw [← hfold]
          clear hfold
          generalize put8 V pp (I64 gu.v) (I64 gu.k) (I64 gu.a.v) (I64 gu.a.s) (I64 gu.a.t) (I64 gu.b.v) (I64 gu.b.s) (I64 gu.b.t) = YW at h8 hBq e2 ⊢
          clear hHeld e1 fz z0 z1 z2 z3 z4 z5 z6 z7 hVo hBp
          refine HK.out _ _ e2 (fun hHeld => ?_)
          clear HK K
          try simp only [Act.put, List.setIfInBounds_toArray, List.set_cons_zero, List.set_cons_succ]
          refine takeH (i := 11) (v := ?vv17) rfl (by kernel_rfl) (by kernel_rfl) (by kernel_rfl) (fun _ _ _ h => h) (Or.inl ⟨by rfl, ?hy17⟩) (by assumption) ?rest17
          case hy17 => (intro w hSw; (try dsimp only at hSw); go_simp; try with_reducible rfl)
          try simp only [Act.put, List.setIfInBounds_toArray, List.set_cons_zero, List.set_cons_succ]
          clear hHeld e2
          refine wpAnyH_done (by kernel_rfl) ?_ _
          obtain ⟨z0, z1, z2, z3, z4, z5, z6, z7⟩ := eight_cells h8
          have hrw : YW.heap[w.heap.size]? = some (.cells #[I64 0, I64 0, I64 0, I64 0, I64 0, I64 0, I64 0, I64 0] 84 (0, 0)) := (hBq.block _ (by omega)).trans hr1
          obtain ⟨x0, x1, x2, x3, x4, x5, x6, x7⟩ := eight_cells hrw
          have fz : ∀ o, YW.frozen? ⟨w.heap.size, o, none⟩ = false := fun o => frozen_of_heap hrw o
          have HRW : Hid _ := hrw
          clear hrw hr1 h8
          go_wp2
          have h8 := put8_heap HRW.out (I64 gu.v) (I64 gu.k) (I64 gu.a.v) (I64 gu.a.s) (I64 gu.a.t) (I64 gu.b.v) (I64 gu.b.s) (I64 gu.b.t)
          obtain ⟨y0, y1, y2, y3, y4, y5, y6, y7⟩ := eight_cells h8
          unfold put8 at y0 y1 y2 y3 y4 y5 y6 y7
          refine ⟨rfl, .tuple #[guV (judgeV ps (X.map (fun x => x.1)) (Y.map (fun x => x.1)) u), .bool (judgeV ps (X.map (fun x => x.1)) (Y.map (fun x => x.1)) u).isSome], ?_, rfl, put8_below (hBw.trans (hBq.mono hBw.size)) (Nat.le_refl _) _ _ _ _ _ _ _ _⟩
          rw [HR.out]
          simp only [results, Tryz.f125]
          simp [go_sem, y0, y1, y2, y3, y4, y5, y6, y7]
        refine AllReadyH.cons (nthO_at rfl) (fun K hK => ?_) ?_
        · rw [if_pos (by rfl)]
          have HK : Hid _ := hK.out
          clear hK
          go_simp
          obtain ⟨V1, hV⟩ : ∃ V, (wx.alloc (.cells #[I64 0, I64 0, I64 0, I64 0, I64 0, I64 0, I64 0, I64 0] 84)).drew = V := ⟨_, rfl⟩
          have hVo1 : V1.heap[nx + 1]? = some (.cells #[I64 0, I64 0, I64 0, I64 0, I64 0, I64 0, I64 0, I64 0] 84 (0, 0)) := by rw [← hV, ← hxz]; exact heap_alloc_new wx _
          have hBV : Below w1.heap.size w1 V1 := by rw [← hV]; exact (hBx.alloc hBx.size _).drew
          have hvz : V1.heap.size = nx + 1 + 1 := by rw [← hV, ← hxz]; simp
          have hpl : w1.heap.size ≤ nx + 1 := by rw [← hxz]; exact hBx.size
          have e0 : V1.cell? ⟨nx, 0, none⟩ = some (I64 x.v) ∧ V1.cell? ⟨nx, 1, none⟩ = some (I64 x.s) ∧ V1.cell? ⟨nx, 2, none⟩ = some (I64 x.t) := by have hb : Below wx.heap.size wx V1 := (by rw [← hV]; exact ((Below.refl wx.heap.size wx).alloc (Nat.le_refl _) _).drew); exact ⟨(hb.cell (p := ⟨nx, 0, none⟩) (by dsimp only; omega)).trans d0, (hb.cell (p := ⟨nx, 1, none⟩) (by dsimp only; omega)).trans d1, (hb.cell (p := ⟨nx, 2, none⟩) (by dsimp only; omega)).trans d2⟩
          have hpx : nx + 1 ≠ nx := by omega
          rw [hV]
          clear hHeld hV
          refine HK.out _ _ e0 (fun hHeld => ?_)
          clear HK K
          try simp only [Act.put, List.setIfInBounds_toArray, List.set_cons_zero, List.set_cons_succ]
          refine doneH (i := 5) rfl (by kernel_rfl) (by rfl) (fun K hK => ?_)
          have HK : Hid _ := hK
          clear hK
          go_simp
          refine (hfa _ (hA.below hBV hlb hlg) (VLiesO.below hLx hBV)).mono ?_
          rintro e V2 ⟨rfl, hB2⟩
          have hzV := hBV.size
          have hBV2 : Below w1.heap.size w1 V2 := hBV.trans (hB2.mono hzV)
          have hVo : V2.heap[nx + 1]? = some (.cells #[I64 0, I64 0, I64 0, I64 0, I64 0, I64 0, I64 0, I64 0] 84 (0, 0)) := (hB2.block _ (by omega)).trans hVo1
          have e1 : V2.cell? ⟨nx, 0, none⟩ = some (I64 x.v) ∧ V2.cell? ⟨nx, 1, none⟩ = some (I64 x.s) ∧ V2.cell? ⟨nx, 2, none⟩ = some (I64 x.t) := ⟨(hB2.cell (p := ⟨nx, 0, none⟩) (by dsimp only; omega)).trans e0.1, (hB2.cell (p := ⟨nx, 1, none⟩) (by dsimp only; omega)).trans e0.2.1, (hB2.cell (p := ⟨nx, 2, none⟩) (by dsimp only; omega)).trans e0.2.2⟩
          have hBp := hBV2
          clear hHeld hfa hVo1 e0 hBV2
          refine HK.out _ _ e1 (fun hHeld => ?_)
          clear HK K
          try simp only [Act.put, List.setIfInBounds_toArray, List.set_cons_zero, List.set_cons_succ]
          refine takeH (i := 6) (v := ?vv18) rfl (by kernel_rfl) (by kernel_rfl) (by kernel_rfl) (fun _ _ _ h => h) (Or.inl ⟨by rfl, ?hy18⟩) (by assumption) ?rest18
          case hy18 => (intro w hSw; (try dsimp only at hSw); go_simp; try with_reducible rfl)
          try simp only [Act.put, List.setIfInBounds_toArray, List.set_cons_zero, List.set_cons_succ]
          refine takeH (i := 7) (v := ?vv19) rfl (by kernel_rfl) (by kernel_rfl) (by kernel_rfl) (fun _ _ _ h => h) (Or.inl ⟨by rfl, ?hy19⟩) (by assumption) ?rest19
          case hy19 => (intro w hSw; (try dsimp only at hSw); go_simp; try with_reducible rfl)
          try simp only [Act.put, List.setIfInBounds_toArray, List.set_cons_zero, List.set_cons_succ]
          refine takeH (i := 8) (v := ?vv20) rfl (by kernel_rfl) (by kernel_rfl) (by kernel_rfl) (fun _ _ _ h => h) (Or.inl ⟨by rfl, ?hy20⟩) (by assumption) ?rest20
          case hy20 => (intro w hSw; (try dsimp only at hSw); go_simp; try with_reducible rfl)
          try simp only [Act.put, List.setIfInBounds_toArray, List.set_cons_zero, List.set_cons_succ]
          generalize nx + 1 = pp at hVo hpl hpx ⊢
          generalize V2 = V at hVo hBp e1 hHeld ⊢
          clear hzV
          have fz : ∀ o, V.frozen? ⟨pp, o, none⟩ = false := fun o => frozen_of_heap hVo o
          obtain ⟨z0, z1, z2, z3, z4, z5, z6, z7⟩ := eight_cells hVo
          refine doneH (i := 10) rfl (by kernel_rfl) (by rfl) (fun K hK => ?_)
          have HK : Hid _ := hK
          clear hK
          go_simp
          have h8 := put8_heap hVo (I64 gu.v) (I64 gu.k) (I64 gu.a.v) (I64 gu.a.s) (I64 gu.a.t) (I64 gu.b.v) (I64 gu.b.s) (I64 gu.b.t)
          have hBq := put8_below hBp hpl (I64 gu.v) (I64 gu.k) (I64 gu.a.v) (I64 gu.a.s) (I64 gu.a.t) (I64 gu.b.v) (I64 gu.b.s) (I64 gu.b.t)
          have e2 : (put8 V pp (I64 gu.v) (I64 gu.k) (I64 gu.a.v) (I64 gu.a.s) (I64 gu.a.t) (I64 gu.b.v) (I64 gu.b.s) (I64 gu.b.t)).cell? ⟨nx, 0, none⟩ = some (I64 x.v) ∧ (put8 V pp (I64 gu.v) (I64 gu.k) (I64 gu.a.v) (I64 gu.a.s) (I64 gu.a.t) (I64 gu.b.v) (I64 gu.b.s) (I64 gu.b.t)).cell? ⟨nx, 1, none⟩ = some (I64 x.s) ∧ (put8 V pp (I64 gu.v) (I64 gu.k) (I64 gu.a.v) (I64 gu.a.s) (I64 gu.a.t) (I64 gu.b.v) (I64 gu.b.s) (I64 gu.b.t)).cell? ⟨nx, 2, none⟩ = some (I64 x.t) := by
            unfold put8
            refine ⟨?_, ?_, ?_⟩ <;> repeat (rw [World.cell?_setCell_other _ _ _ _ (by first | (simp; done) | (simp; omega))])
            · exact e1.1
            · exact e1.2.1
            · exact e1.2.2
          have hfold : put8 V pp (I64 gu.v) (I64 gu.k) (I64 gu.a.v) (I64 gu.a.s) (I64 gu.a.t) (I64 gu.b.v) (I64 gu.b.s) (I64 gu.b.t) = (((((((V.setCell ⟨pp, 0, none⟩ (I64 gu.v)).setCell ⟨pp, 1, none⟩ (I64 gu.k)).setCell ⟨pp, 2, none⟩ (I64 gu.a.v)).setCell ⟨pp, 3, none⟩ (I64 gu.a.s)).setCell ⟨pp, 4, none⟩ (I64 gu.a.t)).setCell ⟨pp, 5, none⟩ (I64 gu.b.v)).setCell ⟨pp, 6, none⟩ (I64 gu.b.s)).setCell ⟨pp, 7, none⟩ (I64 gu.b.t) := rfl
          rw [← hfold]
          clear hfold
          generalize put8 V pp (I64 gu.v) (I64 gu.k) (I64 gu.a.v) (I64 gu.a.s) (I64 gu.a.t) (I64 gu.b.v) (I64 gu.b.s) (I64 gu.b.t) = YW at h8 hBq e2 ⊢
          clear hHeld e1 fz z0 z1 z2 z3 z4 z5 z6 z7 hVo hBp
          refine HK.out _ _ e2 (fun hHeld => ?_)
          clear HK K
          try simp only [Act.put, List.setIfInBounds_toArray, List.set_cons_zero, List.set_cons_succ]
          refine takeH (i := 11) (v := ?vv21) rfl (by kernel_rfl) (by kernel_rfl) (by kernel_rfl) (fun _ _ _ h => h) (Or.inl ⟨by rfl, ?hy21⟩) (by assumption) ?rest21
          case hy21 => (intro w hSw; (try dsimp only at hSw); go_simp; try with_reducible rfl)
          try simp only [Act.put, List.setIfInBounds_toArray, List.set_cons_zero, List.set_cons_succ]
          clear hHeld e2
          refine wpAnyH_done (by kernel_rfl) ?_ _
          obtain ⟨z0, z1, z2, z3, z4, z5, z6, z7⟩ := eight_cells h8
          have hrw : YW.heap[w.heap.size]? = some (.cells #[I64 0, I64 0, I64 0, I64 0, I64 0, I64 0, I64 0, I64 0] 84 (0, 0)) := (hBq.block _ (by omega)).trans hr1
          obtain ⟨x0, x1, x2, x3, x4, x5, x6, x7⟩ := eight_cells hrw
          have fz : ∀ o, YW.frozen? ⟨w.heap.size, o, none⟩ = false := fun o => frozen_of_heap hrw o
          have HRW : Hid _ := hrw
          clear hrw hr1 h8
          go_wp2
          have h8 := put8_heap HRW.out (I64 gu.v) (I64 gu.k) (I64 gu.a.v) (I64 gu.a.s) (I64 gu.a.t) (I64 gu.b.v) (I64 gu.b.s) (I64 gu.b.t)
          obtain ⟨y0, y1, y2, y3, y4, y5, y6, y7⟩ := eight_cells h8
          unfold put8 at y0 y1 y2 y3 y4 y5 y6 y7
          refine ⟨rfl, .tuple #[guV (judgeV ps (X.map (fun x => x.1)) (Y.map (fun x => x.1)) u), .bool (judgeV ps (X.map (fun x => x.1)) (Y.map (fun x => x.1)) u).isSome], ?_, rfl, put8_below (hBw.trans (hBq.mono hBw.size)) (Nat.le_refl _) _ _ _ _ _ _ _ _⟩
          rw [HR.out]
          simp only [results, Tryz.f125]
          simp [go_sem, y0, y1, y2, y3, y4, y5, y6, y7]
        exact AllReadyH.nil
    · have hrw : wr.heap[w.heap.size]? = some (.cells #[I64 0, I64 0, I64 0, I64 0, I64 0, I64 0, I64 0, I64 0] 84 (0, 0)) := (hB.block _ (by omega)).trans hr1
      obtain ⟨z0, z1, z2, z3, z4, z5, z6, z7⟩ := eight_cells hrw
      have fz : ∀ o, wr.frozen? ⟨w.heap.size, o, none⟩ = false := fun o => frozen_of_heap hrw o
      have HRW : Hid _ := hrw
      clear hrw hr1
      go_wp2
      have HN : Hid (judgeV ps (X.map (fun x => x.1)) (Y.map (fun x => x.1)) u = none) := by
        show _ = _
        rw [HG.out, hP.out, List.drop_eq_nil_of_le (by omega)]; rfl
      have h8 := put8_heap HRW.out (I64 0) (I64 0) (I64 0) (I64 0) (I64 0) (I64 0) (I64 0) (I64 0)
      obtain ⟨y0, y1, y2, y3, y4, y5, y6, y7⟩ := eight_cells h8
      unfold put8 at y0 y1 y2 y3 y4 y5 y6 y7
      refine ⟨rfl, .tuple #[guV (judgeV ps (X.map (fun x => x.1)) (Y.map (fun x => x.1)) u), .bool (judgeV ps (X.map (fun x => x.1)) (Y.map (fun x => x.1)) u).isSome], ?_, rfl, put8_below (hBw.trans (hB.mono hBw.size)) (Nat.le_refl _) _ _ _ _ _ _ _ _⟩
      rw [HN.out]
      simp only [results, Tryz.f125]
      simp [go_sem, y0, y1, y2, y3, y4, y5, y6, y7]
end Go.Proofs.YtgebcnnenhgkcaaGreat
