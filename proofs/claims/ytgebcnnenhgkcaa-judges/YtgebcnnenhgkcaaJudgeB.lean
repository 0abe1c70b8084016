/- Judge's own parts: right proofs, what they show, Agree, the votes of a voter by a proof. -/
import Derived.Test.YtgebcnnenhgkcaaJudgeA
import Derived.Test.YtgebcnnenhgkcaaPureF
import Derived.Test.YtgebcnnenhgkcaaGuiltA
namespace Go.Proofs.Ytgebcnnenhgkcaa
open Go.RowKit Go.Shelf

set_option maxRecDepth 100000 in
set_option maxHeartbeats 4000000 in
theorem pRight_at (b o g cap gw cw : Nat) (ws ps : List Int) (X : List LkV) (p : Option Addr) (c : Nat) (w : World) (hA : TreeAt w b o g cap ps) (hww : ∀ j, j < ws.length → w.cell? ⟨gw, j, none⟩ = some (I64 (ws[j]?.getD 0))) (hT : Tree ps) (hW : OkWs ws) (hL : LkAt w p X) (hm : X.length ≤ maxLen) :
    Calls Try.prog 89 #[.pointer (some ⟨b, o, none⟩), .slice (some ⟨gw, 0, none⟩) ws.length cw, .slice p X.length c] w fun e w' => e = .returned (.bool (rightB ws ps (X.map (fun x => x.1)))) ∧ Below w.heap.size w w' := by
  have hml : X.length ≤ 9223372036854775807 := by unfold maxLen at hm; omega
  clear hm
  have hT2 := hT.2.1
  have hw12 := hW.le
  have hlb := hA.lt_b
  have hlg := hA.lt_g hT.1
  have HWW : Hid (∀ j, j < ws.length → w.cell? ⟨gw, j, none⟩ = some (I64 (ws[j]?.getD 0))) := hww
  clear hww
  have HN : Hid ((X.map (fun x => x.1)).length = X.length) := by simp [Hid]
  by_cases hn1 : X.length < 1
  · have hn1' : (X.length : Int) < 1 := by omega
    have HB : Hid (rightB ws ps (X.map (fun x => x.1)) = false) := by show _ = _; unfold rightB; rw [HN.out]; simp; omega
    go_enter Try.func89, Try.ntmps89
    go_wp2
    go_ret
    exact ⟨by rw [HB.out]; rfl, Below.refl _ _⟩
  have hn1' : ¬ (X.length : Int) < 1 := by omega
  by_cases hn2 : X.length > 40
  · have hn2' : (X.length : Int) > 40 := by omega
    have HB : Hid (rightB ws ps (X.map (fun x => x.1)) = false) := by show _ = _; unfold rightB; rw [HN.out]; simp; omega
    go_enter Try.func89, Try.ntmps89
    go_wp2
    go_ret
    exact ⟨by rw [HB.out]; rfl, Below.refl _ _⟩
  have hn2' : ¬ (X.length : Int) > 40 := by omega
  have HRT : Hid (rightB ws ps (X.map (fun x => x.1)) = (chainB ws ps 0 (X.map (fun x => x.1)) && (ps[(endL 0 (X.map (fun x => x.1))).toNat]?.getD 0 == lastS (X.map (fun x => x.1))))) := by
    show _ = _
    unfold rightB
    rw [HN.out]
    have q1 : decide (1 ≤ X.length) = true := by simp; omega
    have q2 : decide (X.length ≤ 40) = true := by simp; omega
    rw [q1, q2]; rfl
  go_enter Try.func89, Try.ntmps89
  go_wp2_with fail
  go_loopw [7, 21] (fun aa ii wr => ∃ (k : Nat) (a : Int), k ≤ X.length ∧ ii = .int .i64 k ∧ aa = .int .i64 a ∧ Below w.heap.size w wr ∧ Hid (chainB ws ps 0 ((X.map (fun x => x.1)).take k) = true) ∧ Hid (endL 0 ((X.map (fun x => x.1)).take k) = a)) (fun _ ii _ => X.length - (intOf ii).toNat)
  case atStart => exact ⟨0, 0, by omega, rfl, rfl, Below.refl _ _, rfl, rfl⟩
  case round =>
    obtain ⟨k, a, hk, rfl, rfl, hB, HCH, HEN⟩ := hrel
    have hLr := hL.below hB
    have hz := hB.size
    by_cases hlt : k < X.length
    · have hlt' : (k : Int) < (X.length : Int) := by omega
      rcases hLr.at' with rfl | ⟨gl, ol, rfl, hcs⟩
      · simp at hlt
      obtain ⟨x, hx⟩ : ∃ x, X[k]? = some x := ⟨_, List.getElem?_eq_getElem hlt⟩
      obtain ⟨x0, x1, x2⟩ := hcs k x hx
      obtain ⟨pv, cv, hxv, hiv, hvm⟩ := hLr.vs x (List.mem_of_getElem? hx)
      rw [hxv] at x2
      have hxL : (X.map (fun x => x.1))[k]? = some x.1 := by simp [hx]
      have HTK : Hid (chainB ws ps 0 ((X.map (fun x => x.1)).take (k + 1)) = okL ws ps a x.1) := by show _ = _; rw [chainB_take hxL, HCH.out, HEN.out, Bool.true_and]
      have HEK : Hid (endL 0 ((X.map (fun x => x.1)).take (k + 1)) = x.1.t) := endL_take hxL
      have HF : Hid (okL ws ps a x.1 = false → rightB ws ps (X.map (fun x => x.1)) = false) := fun hf => by
        rw [HRT.out, chainB_prefix (k := k + 1) (by rw [HTK.out]; exact hf), Bool.false_and]
      obtain ⟨⟨s, t, V⟩, u⟩ := x
      dsimp only at x0 x1 x2 hxv hiv hvm HTK HEK HF
      clear hcs hx hxL HCH HEN HRT hL hLr
      by_cases e1 : s = a
      · have q1 : (s != a) = false := by simpa using e1
        have HOK : Hid (okL ws ps a ⟨s, t, V⟩ = ((inB ps t && ahead ps s t) && (riseB ws.length 0 V && enB ws V))) := by
          show _ = _
          unfold okL
          simp only
          rw [e1]; simp
        clear e1
        go_wp2_with fail
        obtain ⟨W1, hW1⟩ : ∃ W1, wr.alloc (.cells #[I64 s, I64 t, .slice pv V.length cv] 25) = W1 := ⟨_, rfl⟩
        have hnew : W1.heap[wr.heap.size]? = some (.cells #[I64 s, I64 t, .slice pv V.length cv] 25 (0, 0)) := by rw [← hW1]; exact heap_alloc_new wr _
        have hB1 : Below wr.heap.size wr W1 := by rw [← hW1]; exact (Below.refl _ wr).alloc (Nat.le_refl _) _
        have hBw1 : Below w.heap.size w W1 := hB.trans (hB1.mono hz)
        have hz1 : W1.heap.size = wr.heap.size + 1 := by rw [← hW1]; simp
        obtain ⟨nk, hnk⟩ : ∃ nk, wr.heap.size = nk := ⟨_, rfl⟩
        rw [hW1]
        clear hW1
        have hah := isAhead_any b o g cap ps hT s t W1 (hA.below hBw1 hlb hlg)
        refine hah.mono ?_
        rintro e W2 ⟨rfl, hB2⟩
        clear hah
        have hBw2 : Below w.heap.size w W2 := hBw1.trans (hB2.mono hBw1.size)
        have hn2 : W2.heap[wr.heap.size]? = some (.cells #[I64 s, I64 t, .slice pv V.length cv] 25 (0, 0)) := (hB2.block _ (by omega)).trans hnew
        rw [hnk] at hn2 ⊢
        clear hnk
        have y1 : W2.cell? ⟨nk, 1, none⟩ = some (I64 t) := by rw [cell_of_heap hn2]; rfl
        have y2 : W2.cell? ⟨nk, 2, none⟩ = some (.slice pv V.length cv) := by rw [cell_of_heap hn2]; rfl
        cases ha : (inB ps t && ahead ps s t)
        · have HB : Hid (rightB ws ps (X.map (fun x => x.1)) = false) := HF.out (by rw [HOK.out, ha]; rfl)
          clear HF HTK HEK HOK ha
          go_wp2
          go_ret
          exact ⟨by rw [HB.out]; rfl, hBw2⟩
        · rw [ha, Bool.true_and] at HOK
          have hen := pEnough_at gw cw pv cv ws V W2 (fun j hj => by have h1 := HWW.out j hj; exact (hBw2.cell (p := ⟨gw, j, none⟩) (World.block_lt_of_cell? w _ h1)).trans h1) hW (hiv.below' (hB1.trans (hB2.mono (by omega)))) hvm
          go_wp2_with fail
          refine hen.mono ?_
          rintro e W3 ⟨rfl, rfl⟩
          clear hen
          cases hev : (riseB ws.length 0 V && enB ws V)
          · have HB : Hid (rightB ws ps (X.map (fun x => x.1)) = false) := HF.out (by rw [HOK.out, hev])
            clear HF HTK HEK HOK ha hev
            go_wp2
            go_ret
            exact ⟨by rw [HB.out]; rfl, hBw2⟩
          · have HCN : Hid (chainB ws ps 0 ((X.map (fun x => x.1)).take (k + 1)) = true) := by show _ = _; rw [HTK.out, HOK.out, hev]
            clear HF HTK HOK ha hev
            go_wp2
            go_roundw
            case rel => exact ⟨k + 1, t, by omega, by go_num, rfl, hBw2, HCN, HEK⟩
            case measure => simp [intOf]; omega
      · have HB : Hid (rightB ws ps (X.map (fun x => x.1)) = false) := HF.out (by unfold okL; simp [e1])
        have q1 : (s != a) = true := by simpa using e1
        clear HF HTK HEK e1
        have hBw1 := hB.alloc hz (.cells #[I64 s, I64 t, .slice pv V.length cv] 25)
        go_wp2
        go_ret
        exact ⟨by rw [HB.out]; rfl, hBw1⟩
    · have hkn : k = X.length := by omega
      have hch := HCH.out
      have hen := HEN.out
      rw [List.take_of_length_le (by rw [HN.out]; omega)] at hch hen
      obtain ⟨x, hx⟩ : ∃ x, X[X.length - 1]? = some x := ⟨_, List.getElem?_eq_getElem (by omega)⟩
      have hls : lastS (X.map (fun x => x.1)) = x.1.s := by unfold lastS; rw [HN.out]; simp [hx]
      have hxL : (X.map (fun x => x.1))[(X.map (fun x => x.1)).length - 1]? = some x.1 := by rw [HN.out]; simp [hx]
      have hel : endL 0 (X.map (fun x => x.1)) = x.1.t := endL_last hxL
      have hct := (chain_of hT hch).t _ _ hxL
      have HFN : Hid (rightB ws ps (X.map (fun x => x.1)) = (ps[x.1.t.toNat]?.getD 0 == x.1.s)) := by show _ = _; rw [HRT.out, hch, hel, hls, Bool.true_and]
      rcases hLr.at' with h9 | ⟨gl, ol, rfl, hcs⟩
      · rw [h9] at hn1; simp at hn1
      obtain ⟨x0, x1, x2⟩ := hcs (X.length - 1) x hx
      obtain ⟨pv, cv, hxv, hiv, hvm⟩ := hLr.vs x (List.mem_of_getElem? hx)
      rw [hxv] at x2
      obtain ⟨⟨s, t, V⟩, u⟩ := x
      dsimp only at x0 x1 x2 hxv hiv hvm hct HFN
      have hks : (X.length : Int) - 1 = ((X.length - 1 : Nat) : Int) := by omega
      have hkm : X.length - 1 < X.length := by omega
      have hkm' : ((X.length - 1 : Nat) : Int) < (X.length : Int) := by omega
      clear hcs hx hxL hch hen hls hel HCH HEN HRT hLr hL hkn
      go_wp2_with fail
      obtain ⟨W1, hW1⟩ : ∃ W1, wr.alloc (.cells #[I64 s, I64 t, .slice pv V.length cv] 25) = W1 := ⟨_, rfl⟩
      have hB1 : Below wr.heap.size wr W1 := by rw [← hW1]; exact (Below.refl _ wr).alloc (Nat.le_refl _) _
      have hBw1 : Below w.heap.size w W1 := hB.trans (hB1.mono hz)
      have hip := isParent_at b o g cap ps s t W1 (hA.below hBw1 hlb hlg) (by omega) hct.2.1
      have htz : (t != 0) = true := by simp; omega
      rw [htz, Bool.true_and] at hip
      obtain ⟨q, hq⟩ : ∃ q, (ps[t.toNat]?.getD 0 == s) = q := ⟨_, rfl⟩
      rw [hq] at hip HFN
      clear hq
      rw [hW1]
      clear hW1 htz
      refine hip.mono ?_
      rintro e W2 ⟨rfl, hB2⟩
      clear hip hks
      go_wp2
      go_ret
      exact ⟨by rw [HFN.out]; rfl, hBw1.trans (hB2.mono hBw1.size)⟩

theorem shown_at (X : List LkV) (p : Option Addr) (c : Nat) (w : World) (hL : LkAt w p X) (hm : X.length ≤ 40) (h0 : 0 < X.length) :
    Calls Try.prog 70 #[.slice p X.length c] w fun e w' => e = .returned (.int .i64 (lastS (X.map (fun x => x.1)))) ∧ w' = w := by
  obtain ⟨x, hx⟩ : ∃ x, X[X.length - 1]? = some x := ⟨_, List.getElem?_eq_getElem (by omega)⟩
  have HLS : Hid (lastS (X.map (fun x => x.1)) = x.1.s) := by show _ = _; unfold lastS; simp [hx]
  rcases hL.at' with h9 | ⟨gl, ol, rfl, hcs⟩
  · rw [h9] at h0; simp at h0
  obtain ⟨x0, _, _⟩ := hcs (X.length - 1) x hx
  have hks : (X.length : Int) - 1 = ((X.length - 1 : Nat) : Int) := by omega
  have hkm : X.length - 1 < X.length := by omega
  have hkm' : ((X.length - 1 : Nat) : Int) < (X.length : Int) := by omega
  clear hcs hx
  go_enter Try.func70, Try.ntmps70
  go_wp2
  go_ret
  exact ⟨by rw [HLS.out]; rfl, rfl⟩

theorem agree_at (b o g cap : Nat) (ps : List Int) (hT : Tree ps) (x y : Int) (hx0 : 0 ≤ x) (hx1 : x.toNat < ps.length) (hy0 : 0 ≤ y) (hy1 : y.toNat < ps.length) (w : World) (hA : TreeAt w b o g cap ps) :
    Calls Try.prog 69 #[.pointer (some ⟨b, o, none⟩), .int .i64 x, .int .i64 y] w fun e w' => e = .returned (.bool (x == y || (ahead ps x y || ahead ps y x))) ∧ Below w.heap.size w w' := by
  have hlb := hA.lt_b
  have hlg := hA.lt_g hT.1
  have c1 := fun W hA => isAhead_at b o g cap ps hT x y hy0 hy1 W hA
  have c2 := fun W hA => isAhead_at b o g cap ps hT y x hx0 hx1 W hA
  cases hq : (x == y)
  · cases q1 : ahead ps x y
    · obtain ⟨q2, hq2⟩ : ∃ q2, ahead ps y x = q2 := ⟨_, rfl⟩
      rw [q1] at c1
      rw [hq2] at c2 ⊢
      clear q1 hq2
      go_enter Try.func69, Try.ntmps69
      go_wp2_with fail
      refine (c1 _ hA).mono ?_
      rintro e w1 ⟨rfl, hB1⟩
      go_wp2_with fail
      refine (c2 _ (hA.below hB1 hlb hlg)).mono ?_
      rintro e w2 ⟨rfl, hB2⟩
      go_wp2
      go_ret
      exact ⟨by cases q2 <;> rfl, hB1.trans (hB2.mono hB1.size)⟩
    · rw [q1] at c1
      clear q1 c2
      go_enter Try.func69, Try.ntmps69
      go_wp2_with fail
      refine (c1 _ hA).mono ?_
      rintro e w1 ⟨rfl, hB1⟩
      go_wp2
      go_ret
      exact ⟨rfl, hB1⟩
  · clear c1 c2
    go_enter Try.func69, Try.ntmps69
    go_wp2
    go_ret
    exact ⟨rfl, Below.refl _ _⟩
end Go.Proofs.Ytgebcnnenhgkcaa
