/- The law's unmoved: links that were lent are as they were; then they are written over. -/
import Derived.Lib.SliceRun
import Derived.Test.YtgebcnnenhgkcaaGreatB22
import Derived.Test.YtgebcnnenhgkcaaGreatB04
import Derived.Test.YtgebcnnenhgkcaaGreatB08
import Derived.Test.YtgebcnnenhgkcaaGreatB21
import Derived.Test.YtgebcnnenhgkcaaGreatB14
import Derived.Test.YtgebcnnenhgkcaaGreatB12
namespace Go.Proofs.YtgebcnnenhgkcaaGreat
open Go.RowKit Go.Shelf

/-- The cells of links that lie in a block of one's own: from one on they are as they were. -/
theorem lv_cells {w : World} {base : Nat} {v : Value} {Z : List LkV} (h : w.ownsRow base 121 3 v Z.length (lvRow Z)) (hp : 0 < Z.length) : ∃ g cap cur, v = .slice (some ⟨g, 0, none⟩) Z.length cap ∧ base ≤ g ∧ w.heap[g]? = some (.cells cur 121 (0, 0)) ∧ Z.length * 3 ≤ cur.size ∧ ∀ j x, Z[j]? = some x → cur[j * 3]? = some (I64 x.1.s) ∧ cur[j * 3 + 1]? = some (I64 x.1.t) ∧ cur[j * 3 + 2]? = some x.2 := by
  rcases h.2 with ⟨_, hn⟩ | ⟨g, cap, cur, h1, h2, h3, hle, hm, hs, ht⟩
  · omega
  · refine ⟨g, cap, cur, h1, h2, h3, ?_, ?_⟩
    · rw [hs]; exact Nat.mul_le_mul_right _ hle
    · intro j x hj
      have hjl : j < Z.length := (List.getElem?_eq_some_iff.1 hj).1
      have key : ∀ i u, (lvCells x)[i]? = some u → i < 3 → cur[j * 3 + i]? = some u := fun i u hu hi => by
        have h9 := lvRow_at hj hu
        rw [← ht, List.getElem?_take_of_lt (by omega)] at h9
        simpa using h9
      exact ⟨key 0 _ rfl (by omega), key 1 _ rfl (by omega), key 2 _ rfl (by omega)⟩
/-- One cell of a row of one's own. -/
theorem one_cell {w : World} {base : Nat} {e : TypeId} {v : Value} {n : Nat} {xs : List Value} (h : w.ownsRow base e 1 v n xs) {j : Nat} {u : Value} (hj : xs[j]? = some u) : ∃ g cap, v = .slice (some ⟨g, 0, none⟩) n cap ∧ base ≤ g ∧ w.cell? ⟨g, j, none⟩ = some u := by
  have hjl : j < xs.length := (List.getElem?_eq_some_iff.1 hj).1
  have hxl := h.1
  rcases h.2 with ⟨_, hn⟩ | ⟨g, cap, cur, h1, h2, h3, hle, hm, hs, ht⟩
  · subst hn; omega
  · refine ⟨g, cap, h1, h2, ?_⟩
    rw [cell_of_heap h3]
    have h9 := hj
    rw [← ht, List.getElem?_take_of_lt (by omega)] at h9
    simpa using h9

set_option maxRecDepth 100000 in
set_option maxHeartbeats 4000000 in
theorem unmoved_at (w0 : World) (vo va : Value) (D : List Dp) (p : Option Addr) (c : Nat) (X : List LkV) (w : World) (hD : DeepAt w w0.heap.size vo va D [spareL, spareL, spareL]) (hX : LkAt w0 p X) (hB0 : Below w0.heap.size w0 w) (hF : LkFit X) (hl : D.map Dp.l = X.map (fun x => x.1)) :
    Calls Tryz.prog 116 #[vo, va, .slice p X.length c] w fun e w' => e = .returned (.bool true) ∧ Chg (fun k => vo.ownBlock = some k ∨ ∃ d ∈ D, k = d.g) w w' := by
  have hDX : D.length = X.length := by have := congrArg List.length hl; simpa using this
  have hlen : X.length + 3 ≤ 9223372036854775807 := by have := hF.len; omega
  have HF : Hid (LkFit X) := hF
  clear hF
  obtain ⟨go, co, cur0, hvo, hgo, hcur0, hsz0, hcs0⟩ := lv_cells (Z := D.map Dp.o ++ [spareL, spareL, spareL]) (by simpa using hD.out) (by simp)
  have hZl : (D.map Dp.o ++ [spareL, spareL, spareL]).length = X.length + 3 := by simp [hDX]
  rw [hZl] at hvo hsz0
  subst hvo
  obtain ⟨pa, ca, hva⟩ := row_slice hD.all
  subst hva
  rw [hDX] at hD ⊢
  have HCS : Hid (∀ j x, (D.map Dp.o ++ [spareL, spareL, spareL])[j]? = some x → cur0[j * 3]? = some (I64 x.1.s) ∧ cur0[j * 3 + 1]? = some (I64 x.1.t) ∧ cur0[j * 3 + 2]? = some x.2) := hcs0
  clear hcs0
  have HDA : Hid _ := hD
  go_enter Tryz.func116, Tryz.ntmps116
  go_wp2
  go_loopw [7, 8] (fun ok i wr => ∃ (k : Nat) (cur : Array Value), k ≤ X.length + 3 ∧ i = .int .i64 k ∧ ok = .bool true ∧ Chg (fun m => m = go) w wr ∧ wr.heap[go]? = some (.cells cur 121 (0, 0)) ∧ (X.length + 3) * 3 ≤ cur.size ∧ Hid (∀ j, k * 3 ≤ j → cur[j]? = cur0[j]?)) (fun _ i _ => X.length + 3 - (intOf i).toNat)
  case atStart => exact ⟨0, cur0, by omega, rfl, rfl, Chg.refl _ _, hcur0, hsz0, fun j _ => rfl⟩
  case round =>
    obtain ⟨k, cur, hk, rfl, rfl, hc, hcur, hsz, HJ⟩ := hrel
    have hB : Below w0.heap.size w0 wr := hB0.trans (hc.below hB0.size (fun m hm e => by omega))
    by_cases hlt : k < X.length + 3
    · have hlt' : (k : Int) < (X.length : Int) + 3 := by omega
      have hltn : (k : Int) < ((X.length + 3 : Nat) : Int) := by omega
      by_cases hkx : k < X.length
      · have hkx' : (k : Int) < (X.length : Int) := by omega
        have hLr := hX.below hB
        rcases hX.at' with e | ⟨g, o, rfl, hcs⟩
        · rw [e] at hkx; simp at hkx
        obtain ⟨x, hx⟩ : ∃ x, X[k]? = some x := ⟨_, List.getElem?_eq_getElem hkx⟩
        have hxm := List.mem_of_getElem? hx
        obtain ⟨d, hd⟩ : ∃ d, D[k]? = some d := ⟨_, List.getElem?_eq_getElem (by omega)⟩
        have hdm := List.mem_of_getElem? hd
        have hdx : d.l = x.1 := by
          have h9 : (D.map Dp.l)[k]? = some d.l := by simp [hd]
          rw [hl] at h9
          simpa [hx] using h9.symm
        obtain ⟨v0, v1, v2⟩ := hcs k x hx
        have hgl : g < w0.heap.size := World.block_lt_of_cell? w0 _ v0
        obtain ⟨pv, cv, hxv, hiv, hvm⟩ := hLr.vs x hxm
        rw [hxv] at v2
        have x0 := (hB.cell (p := ⟨g, o + k * 3, none⟩) hgl).trans v0
        have x1 := (hB.cell (p := ⟨g, o + k * 3 + 1, none⟩) hgl).trans v1
        have x2 := (hB.cell (p := ⟨g, o + k * 3 + 2, none⟩) hgl).trans v2
        obtain ⟨q0, q1, q2⟩ := HCS.out k d.o (by rw [List.getElem?_append_left (by simp; omega)]; simp [hd])
        obtain ⟨gA, cA, hva, hgA, hcA⟩ := one_cell (w := w) HDA.out.all (j := k) (u := d.a) (by simp [hd])
        simp only [Value.slice.injEq] at hva
        obtain ⟨rfl, hvl, rfl⟩ := hva
        clear hvl
        clear hcs hx hxm hLr
        obtain ⟨⟨s, t, V⟩, vx⟩ := x
        dsimp only at x0 x1 x2 hiv hvm hdx
        have hgr : g < wr.heap.size := Nat.lt_of_lt_of_le hgl hB.size
        have hBa : Below wr.heap.size wr (wr.alloc (.cells #[I64 77, I64 0, .slice none 0 0] 121)) := (Below.refl _ wr).alloc (Nat.le_refl _) _
        have a0 := (hBa.cell (p := ⟨g, o + k * 3, none⟩) hgr).trans x0
        have a1 := (hBa.cell (p := ⟨g, o + k * 3 + 1, none⟩) hgr).trans x1
        have a2 := (hBa.cell (p := ⟨g, o + k * 3 + 2, none⟩) hgr).trans x2
        have hnw : (wr.alloc (.cells #[I64 77, I64 0, .slice none 0 0] 121)).heap[wr.heap.size]? = some (.cells #[I64 77, I64 0, .slice none 0 0] 121 (0, 0)) := heap_alloc_new wr _
        have b0 : (wr.alloc (.cells #[I64 77, I64 0, .slice none 0 0] 121)).cell? ⟨wr.heap.size, 0, none⟩ = some (I64 77) := by rw [cell_of_heap hnw]; rfl
        have b1 : (wr.alloc (.cells #[I64 77, I64 0, .slice none 0 0] 121)).cell? ⟨wr.heap.size, 1, none⟩ = some (I64 0) := by rw [cell_of_heap hnw]; rfl
        have b2 : (wr.alloc (.cells #[I64 77, I64 0, .slice none 0 0] 121)).cell? ⟨wr.heap.size, 2, none⟩ = some (.slice none 0 0) := by rw [cell_of_heap hnw]; rfl
        have bz : ∀ o, (wr.alloc (.cells #[I64 77, I64 0, .slice none 0 0] 121)).frozen? ⟨wr.heap.size, o, none⟩ = false := fun o => frozen_of_heap hnw o
        go_wp2_with fail
        obtain ⟨W1, hW1⟩ : ∃ W1, wr.alloc (.cells #[I64 s, I64 t, .slice pv V.length cv] 121) = W1 := ⟨_, rfl⟩
        have hBr : Below wr.heap.size wr W1 := by rw [← hW1]; exact (Below.refl _ wr).alloc (Nat.le_refl _) _
        have hwn : W1.heap[wr.heap.size]? = some (.cells #[I64 s, I64 t, .slice pv V.length cv] 121 (0, 0)) := by rw [← hW1]; exact heap_alloc_new wr _
        rw [hW1]
        clear hW1 a0 a1 a2 b0 b1 b2 bz hnw hBa
        have hgAo : gA ≠ go := fun e => HDA.out.ne1 go rfl (by rw [e]; rfl)
        have hdgo : d.g ≠ go := fun e => (HDA.out.ne2 d hdm).1 (by rw [e]; rfl)
        have hrd := row_below (hc.row (HDA.out.each d hdm) (fun m hm e => by rw [Dp.blk] at hm; injection hm with hm; omega)) hBr (Nat.le_refl _)
        have hcA1 := (hBr.cell (p := ⟨gA, k, none⟩) (World.block_lt_of_cell? wr _ (hc.cell hcA hgAo))).trans (hc.cell hcA hgAo)
        have y2 := (hBr.cell (p := ⟨g, o + k * 3 + 2, none⟩) hgr).trans x2
        have hiW : IntsAt W1 pv V := hiv.below' hBr
        obtain ⟨dl, dg, dc⟩ := d
        dsimp only at hdx hdgo
        subst hdx
        simp only [Dp.a, Dp.o] at hrd hcA1 q0 q1 q2
        have hcur1 := (hBr.block go (Array.getElem?_eq_some_iff.1 hcur).1).trans hcur
        have hkp : ∀ n, Calls Tryz.prog 40 #[.slice (some ⟨dg, 0, none⟩) (V.length + 3) dc, .slice pv V.length cv] (W1.drewN n) fun e w' => e = .returned (.bool true) ∧ ∃ m, w' = (W1.drewN n).drewN m := by
          intro n
          obtain ⟨g', cap', he, hle, hm, hcs', _⟩ := row_open (xs := V ++ [77, 77, 77]) (by simpa using row_low hrd) (by simp)
          simp only [Value.slice.injEq, Option.some.injEq, Addr.mk.injEq, and_true] at he
          obtain ⟨rfl, _, rfl⟩ := he
          have hle' : V.length + 3 ≤ dc := by simpa using hle
          exact kept_at dg dc cv pv V (W1.drewN n) hcs' hiW (by omega) hle'
        refine wp_region_held_drew (S := fun w' => w'.cell? ⟨gA, k, none⟩ = some (.slice (some ⟨dg, 0, none⟩) (V.length + 3) dc) ∧ w'.cell? ⟨g, o + k * 3 + 2, none⟩ = some (.slice pv V.length cv)) (by kernel_rfl) ⟨hcA1, y2⟩ (fun hHeld => ?_)
        refine takeH (i := 0) (v := ?vv1) rfl (by kernel_rfl) (by kernel_rfl) (by kernel_rfl) (fun _ _ _ h => h) (Or.inl ⟨by rfl, ?hy1⟩) (by assumption) ?rest1
        case hy1 => (intro w hSw; (try dsimp only at hSw); go_simp; try with_reducible rfl)
        try simp only [Act.put, List.setIfInBounds_toArray, List.set_cons_zero, List.set_cons_succ]
        refine takeH (i := 1) (v := ?vv2) rfl (by kernel_rfl) (by kernel_rfl) (by kernel_rfl) (fun _ _ _ h => h) (Or.inl ⟨by rfl, ?hy2⟩) (by assumption) ?rest2
        case hy2 => (intro w hSw; (try dsimp only at hSw); go_simp; try with_reducible rfl)
        try simp only [Act.put, List.setIfInBounds_toArray, List.set_cons_zero, List.set_cons_succ]
        refine takeH (i := 2) (v := ?vv3) rfl (by kernel_rfl) (by kernel_rfl) (by kernel_rfl) (fun _ _ _ h => h) (Or.inl ⟨by rfl, ?hy3⟩) (by assumption) ?rest3
        case hy3 => (intro w hSw; (try dsimp only at hSw); go_simp; try with_reducible rfl)
        try simp only [Act.put, List.setIfInBounds_toArray, List.set_cons_zero, List.set_cons_succ]
        refine takeH (i := 3) (v := ?vv4) rfl (by kernel_rfl) (by kernel_rfl) (by kernel_rfl) (fun _ _ _ h => h) (Or.inl ⟨by rfl, ?hy4⟩) (by assumption) ?rest4
        case hy4 => (intro w hSw; (try dsimp only at hSw); go_simp; try with_reducible rfl)
        try simp only [Act.put, List.setIfInBounds_toArray, List.set_cons_zero, List.set_cons_succ]
        refine takeH (i := 4) (v := ?vv5) rfl (by kernel_rfl) (by kernel_rfl) (by kernel_rfl) (fun _ _ _ h => h) (Or.inl ⟨by rfl, ?hy5⟩) (by assumption) ?rest5
        case hy5 => (intro w hSw; (try dsimp only at hSw); go_simp; try with_reducible rfl)
        try simp only [Act.put, List.setIfInBounds_toArray, List.set_cons_zero, List.set_cons_succ]
        refine takeH (i := 5) (v := ?vv6) rfl (by kernel_rfl) (by kernel_rfl) (by kernel_rfl) (fun _ _ _ h => h) (Or.inl ⟨by rfl, ?hy6⟩) (by assumption) ?rest6
        case hy6 => (intro w hSw; (try dsimp only at hSw); go_simp; try with_reducible rfl)
        try simp only [Act.put, List.setIfInBounds_toArray, List.set_cons_zero, List.set_cons_succ]
        refine takeH (i := 6) (v := ?vv7) rfl (by kernel_rfl) (by kernel_rfl) (by kernel_rfl) (fun _ _ _ h => h) (Or.inl ⟨by rfl, ?hy7⟩) (by assumption) ?rest7
        case hy7 => (intro w hSw; (try dsimp only at hSw); go_simp; try with_reducible rfl)
        try simp only [Act.put, List.setIfInBounds_toArray, List.set_cons_zero, List.set_cons_succ]
        refine takeH (i := 7) (v := ?vv8) rfl (by kernel_rfl) (by kernel_rfl) (by kernel_rfl) (fun _ _ _ h => h) (Or.inl ⟨by rfl, ?hy8⟩) (by assumption) ?rest8
        case hy8 => (intro w hSw; (try dsimp only at hSw); go_simp; try with_reducible rfl)
        try simp only [Act.put, List.setIfInBounds_toArray, List.set_cons_zero, List.set_cons_succ]
        refine takeH (i := 8) (v := ?vv9) rfl (by kernel_rfl) (by kernel_rfl) (by kernel_rfl) (fun _ _ _ h => h) (Or.inl ⟨by rfl, ?hy9⟩) (by assumption) ?rest9
        case hy9 => (intro w hSw; (try dsimp only at hSw); go_simp; try with_reducible rfl)
        try simp only [Act.put, List.setIfInBounds_toArray, List.set_cons_zero, List.set_cons_succ]
        refine doneH (i := 9) rfl (by kernel_rfl) (by rfl) (fun K hK => ?_)
        have HK : Hid _ := hK
        clear hK
        go_simp
        refine (hkp 1).mono ?_
        rintro e w7 ⟨rfl, m, hw7⟩
        subst hw7
        clear hHeld
        refine HK.out _ _ ⟨hcA1, y2⟩ (fun hHeld => ?_)
        clear HK K
        try simp only [Act.put, List.setIfInBounds_toArray, List.set_cons_zero, List.set_cons_succ]
        refine takeH (i := 10) (v := ?vv10) rfl (by kernel_rfl) (by kernel_rfl) (by kernel_rfl) (fun _ _ _ h => h) (Or.inl ⟨by rfl, ?hy10⟩) (by assumption) ?rest10
        case hy10 => (intro w hSw; (try dsimp only at hSw); go_simp; try with_reducible rfl)
        try simp only [Act.put, List.setIfInBounds_toArray, List.set_cons_zero, List.set_cons_succ]
        clear hHeld
        refine wpAnyH_done (by kernel_rfl) ?_ _
        go_wp2_with fail
        obtain ⟨n1, hn1⟩ : ∃ n1, 1 + m = n1 := ⟨_, rfl⟩
        rw [hn1]
        clear hn1 hkp hcA1 y2
        obtain ⟨⟨u0, u1, u2⟩, uz⟩ : (W1.cell? ⟨wr.heap.size, 0, none⟩ = some (I64 s) ∧ W1.cell? ⟨wr.heap.size, 1, none⟩ = some (I64 t) ∧ W1.cell? ⟨wr.heap.size, 2, none⟩ = some (.slice pv V.length cv)) ∧ True := ⟨⟨by rw [cell_of_heap hwn]; rfl, by rw [cell_of_heap hwn]; rfl, by rw [cell_of_heap hwn]; rfl⟩, trivial⟩
        have c0 : W1.cell? ⟨go, k * 3, none⟩ = some (I64 s) := by rw [cell_of_heap hcur1, HJ.out _ (by omega)]; exact q0
        have c1 : W1.cell? ⟨go, k * 3 + 1, none⟩ = some (I64 t) := by rw [cell_of_heap hcur1, HJ.out _ (by omega)]; exact q1
        have c2 : W1.cell? ⟨go, k * 3 + 2, none⟩ = some (.slice (some ⟨dg, 0, none⟩) V.length dc) := by rw [cell_of_heap hcur1, HJ.out _ (by omega)]; exact q2
        have hsi : ∀ n, Calls Tryz.prog 72 #[.slice (some ⟨dg, 0, none⟩) V.length dc, .slice pv V.length cv] (W1.drewN n) fun e w' => e = .returned (.bool true) ∧ ∃ m, w' = (W1.drewN n).drewN m := by
          intro n
          obtain ⟨g', cap', he, hle, hm, hcs', _⟩ := row_open (xs := V ++ [77, 77, 77]) (by simpa using row_low hrd) (by simp)
          simp only [Value.slice.injEq, Option.some.injEq, Addr.mk.injEq, and_true] at he
          obtain ⟨rfl, _, rfl⟩ := he
          have h9 := sameInts_at (some ⟨dg, 0, none⟩) pv dc cv V V (W1.drewN n) (IntsAt.take (ys := [77, 77, 77]) (.inr ⟨dg, 0, rfl, fun j hj => by rw [Nat.zero_add]; exact hcs' j hj⟩)) hiW hvm
          simpa using h9
        refine wp_region_held_drew (S := fun w' => w'.cell? ⟨go, k * 3 + 2, none⟩ = some (.slice (some ⟨dg, 0, none⟩) V.length dc) ∧ w'.cell? ⟨wr.heap.size, 2, none⟩ = some (.slice pv V.length cv)) (by kernel_rfl) ⟨c2, u2⟩ (fun hHeld => ?_)
        refine takeH (i := 0) (v := ?vv11) rfl (by kernel_rfl) (by kernel_rfl) (by kernel_rfl) (fun _ _ _ h => h) (Or.inl ⟨by rfl, ?hy11⟩) (by assumption) ?rest11
        case hy11 => (intro w hSw; (try dsimp only at hSw); go_simp; try with_reducible rfl)
        try simp only [Act.put, List.setIfInBounds_toArray, List.set_cons_zero, List.set_cons_succ]
        refine takeH (i := 1) (v := ?vv12) rfl (by kernel_rfl) (by kernel_rfl) (by kernel_rfl) (fun _ _ _ h => h) (Or.inl ⟨by rfl, ?hy12⟩) (by assumption) ?rest12
        case hy12 => (intro w hSw; (try dsimp only at hSw); go_simp; try with_reducible rfl)
        try simp only [Act.put, List.setIfInBounds_toArray, List.set_cons_zero, List.set_cons_succ]
        refine takeH (i := 2) (v := ?vv13) rfl (by kernel_rfl) (by kernel_rfl) (by kernel_rfl) (fun _ _ _ h => h) (Or.inl ⟨by rfl, ?hy13⟩) (by assumption) ?rest13
        case hy13 => (intro w hSw; (try dsimp only at hSw); go_simp; try with_reducible rfl)
        try simp only [Act.put, List.setIfInBounds_toArray, List.set_cons_zero, List.set_cons_succ]
        refine takeH (i := 3) (v := ?vv14) rfl (by kernel_rfl) (by kernel_rfl) (by kernel_rfl) (fun _ _ _ h => h) (Or.inl ⟨by rfl, ?hy14⟩) (by assumption) ?rest14
        case hy14 => (intro w hSw; (try dsimp only at hSw); go_simp; try with_reducible rfl)
        try simp only [Act.put, List.setIfInBounds_toArray, List.set_cons_zero, List.set_cons_succ]
        refine takeH (i := 4) (v := ?vv15) rfl (by kernel_rfl) (by kernel_rfl) (by kernel_rfl) (fun _ _ _ h => h) (Or.inl ⟨by rfl, ?hy15⟩) (by assumption) ?rest15
        case hy15 => (intro w hSw; (try dsimp only at hSw); go_simp; try with_reducible rfl)
        try simp only [Act.put, List.setIfInBounds_toArray, List.set_cons_zero, List.set_cons_succ]
        refine takeH (i := 5) (v := ?vv16) rfl (by kernel_rfl) (by kernel_rfl) (by kernel_rfl) (fun _ _ _ h => h) (Or.inl ⟨by rfl, ?hy16⟩) (by assumption) ?rest16
        case hy16 => (intro w hSw; (try dsimp only at hSw); go_simp; try with_reducible rfl)
        try simp only [Act.put, List.setIfInBounds_toArray, List.set_cons_zero, List.set_cons_succ]
        refine takeH (i := 6) (v := ?vv17) rfl (by kernel_rfl) (by kernel_rfl) (by kernel_rfl) (fun _ _ _ h => h) (Or.inl ⟨by rfl, ?hy17⟩) (by assumption) ?rest17
        case hy17 => (intro w hSw; (try dsimp only at hSw); go_simp; try with_reducible rfl)
        try simp only [Act.put, List.setIfInBounds_toArray, List.set_cons_zero, List.set_cons_succ]
        refine doneH (i := 7) rfl (by kernel_rfl) (by rfl) (fun K hK => ?_)
        have HK : Hid _ := hK
        clear hK
        go_simp
        refine (hsi _).mono ?_
        rintro e w7 ⟨rfl, m2, hw7⟩
        subst hw7
        clear hHeld
        refine HK.out _ _ ⟨c2, u2⟩ (fun hHeld => ?_)
        clear HK K
        try simp only [Act.put, List.setIfInBounds_toArray, List.set_cons_zero, List.set_cons_succ]
        refine takeH (i := 8) (v := ?vv18) rfl (by kernel_rfl) (by kernel_rfl) (by kernel_rfl) (fun _ _ _ h => h) (Or.inl ⟨by rfl, ?hy18⟩) (by assumption) ?rest18
        case hy18 => (intro w hSw; (try dsimp only at hSw); go_simp; try with_reducible rfl)
        try simp only [Act.put, List.setIfInBounds_toArray, List.set_cons_zero, List.set_cons_succ]
        clear hHeld hsi
        refine wpAnyH_done (by kernel_rfl) ?_ _
        go_wp2_with fail
        refine wp_region_held_drew (S := fun w' => (w'.cell? ⟨go, k * 3, none⟩ = some (I64 s) ∧ w'.cell? ⟨go, k * 3 + 1, none⟩ = some (I64 t)) ∧ w'.cell? ⟨wr.heap.size, 0, none⟩ = some (I64 s) ∧ w'.cell? ⟨wr.heap.size, 1, none⟩ = some (I64 t)) (by kernel_rfl) ⟨⟨c0, c1⟩, u0, u1⟩ (fun hHeld => ?_)
        refine takeH (i := 0) (v := ?vv19) rfl (by kernel_rfl) (by kernel_rfl) (by kernel_rfl) (fun _ _ _ h => h) (Or.inl ⟨by rfl, ?hy19⟩) (by assumption) ?rest19
        case hy19 => (intro w hSw; (try dsimp only at hSw); go_simp; try with_reducible rfl)
        try simp only [Act.put, List.setIfInBounds_toArray, List.set_cons_zero, List.set_cons_succ]
        refine takeH (i := 1) (v := ?vv20) rfl (by kernel_rfl) (by kernel_rfl) (by kernel_rfl) (fun _ _ _ h => h) (Or.inl ⟨by rfl, ?hy20⟩) (by assumption) ?rest20
        case hy20 => (intro w hSw; (try dsimp only at hSw); go_simp; try with_reducible rfl)
        try simp only [Act.put, List.setIfInBounds_toArray, List.set_cons_zero, List.set_cons_succ]
        refine takeH (i := 2) (v := ?vv21) rfl (by kernel_rfl) (by kernel_rfl) (by kernel_rfl) (fun _ _ _ h => h) (Or.inl ⟨by rfl, ?hy21⟩) (by assumption) ?rest21
        case hy21 => (intro w hSw; (try dsimp only at hSw); go_simp; try with_reducible rfl)
        try simp only [Act.put, List.setIfInBounds_toArray, List.set_cons_zero, List.set_cons_succ]
        refine takeH (i := 3) (v := ?vv22) rfl (by kernel_rfl) (by kernel_rfl) (by kernel_rfl) (fun _ _ _ h => h) (Or.inl ⟨by rfl, ?hy22⟩) (by assumption) ?rest22
        case hy22 => (intro w hSw; (try dsimp only at hSw); go_simp; try with_reducible rfl)
        try simp only [Act.put, List.setIfInBounds_toArray, List.set_cons_zero, List.set_cons_succ]
        refine takeH (i := 4) (v := ?vv23) rfl (by kernel_rfl) (by kernel_rfl) (by kernel_rfl) (fun _ _ _ h => h) (Or.inl ⟨by rfl, ?hy23⟩) (by assumption) ?rest23
        case hy23 => (intro w hSw; (try dsimp only at hSw); go_simp; try with_reducible rfl)
        try simp only [Act.put, List.setIfInBounds_toArray, List.set_cons_zero, List.set_cons_succ]
        refine takeH (i := 5) (v := ?vv24) rfl (by kernel_rfl) (by kernel_rfl) (by kernel_rfl) (fun _ _ _ h => h) (Or.inl ⟨by rfl, ?hy24⟩) (by assumption) ?rest24
        case hy24 => (intro w hSw; (try dsimp only at hSw); go_simp; try with_reducible rfl)
        try simp only [Act.put, List.setIfInBounds_toArray, List.set_cons_zero, List.set_cons_succ]
        refine takeH (i := 6) (v := ?vv25) rfl (by kernel_rfl) (by kernel_rfl) (by kernel_rfl) (fun _ _ _ h => h) (Or.inl ⟨by rfl, ?hy25⟩) (by assumption) ?rest25
        case hy25 => (intro w hSw; (try dsimp only at hSw); go_simp; try with_reducible rfl)
        try simp only [Act.put, List.setIfInBounds_toArray, List.set_cons_zero, List.set_cons_succ]
        refine takeH (i := 7) (v := ?vv26) rfl (by kernel_rfl) (by kernel_rfl) (by kernel_rfl) (fun _ _ _ h => h) (Or.inl ⟨by rfl, ?hy26⟩) (by assumption) ?rest26
        case hy26 => (intro w hSw; (try dsimp only at hSw); go_simp; try with_reducible rfl)
        try simp only [Act.put, List.setIfInBounds_toArray, List.set_cons_zero, List.set_cons_succ]
        refine takeH (i := 8) (v := ?vv27) rfl (by kernel_rfl) (by kernel_rfl) (by kernel_rfl) (fun _ _ _ h => h) (Or.inl ⟨by rfl, ?hy27⟩) (by assumption) ?rest27
        case hy27 => (intro w hSw; (try dsimp only at hSw); go_simp; try with_reducible rfl)
        try simp only [Act.put, List.setIfInBounds_toArray, List.set_cons_zero, List.set_cons_succ]
        refine takeH (i := 9) (v := ?vv28) rfl (by kernel_rfl) (by kernel_rfl) (by kernel_rfl) (fun _ _ _ h => h) (Or.inl ⟨by rfl, ?hy28⟩) (by assumption) ?rest28
        case hy28 => (intro w hSw; (try dsimp only at hSw); go_simp; try with_reducible rfl)
        try simp only [Act.put, List.setIfInBounds_toArray, List.set_cons_zero, List.set_cons_succ]
        refine takeH (i := 10) (v := ?vv29) rfl (by kernel_rfl) (by kernel_rfl) (by kernel_rfl) (fun _ _ _ h => h) (Or.inl ⟨by rfl, ?hy29⟩) (by assumption) ?rest29
        case hy29 => (intro w hSw; (try dsimp only at hSw); go_simp; try with_reducible rfl)
        try simp only [Act.put, List.setIfInBounds_toArray, List.set_cons_zero, List.set_cons_succ]
        refine takeH (i := 11) (v := ?vv30) rfl (by kernel_rfl) (by kernel_rfl) (by kernel_rfl) (fun _ _ _ h => h) (Or.inl ⟨by rfl, ?hy30⟩) (by assumption) ?rest30
        case hy30 => (intro w hSw; (try dsimp only at hSw); go_simp; try with_reducible rfl)
        try simp only [Act.put, List.setIfInBounds_toArray, List.set_cons_zero, List.set_cons_succ]
        refine takeH (i := 12) (v := .bool true) rfl (by kernel_rfl) (by kernel_rfl) (by kernel_rfl) (fun _ _ _ h => h) (Or.inl ⟨by rfl, ?hy31⟩) (by assumption) ?rest31
        case hy31 => (intro w hSw; (try dsimp only at hSw); go_simp; try simp [*]; try omega)
        try simp only [Act.put, List.setIfInBounds_toArray, List.set_cons_zero, List.set_cons_succ]
        refine takeH (i := 13) (v := ?vv32) rfl (by kernel_rfl) (by kernel_rfl) (by kernel_rfl) (fun _ _ _ h => h) (Or.inl ⟨by rfl, ?hy32⟩) (by assumption) ?rest32
        case hy32 => (intro w hSw; (try dsimp only at hSw); go_simp; try with_reducible rfl)
        try simp only [Act.put, List.setIfInBounds_toArray, List.set_cons_zero, List.set_cons_succ]
        refine takeH (i := 14) (v := ?vv33) rfl (by kernel_rfl) (by kernel_rfl) (by kernel_rfl) (fun _ _ _ h => h) (Or.inl ⟨by rfl, ?hy33⟩) (by assumption) ?rest33
        case hy33 => (intro w hSw; (try dsimp only at hSw); go_simp; try with_reducible rfl)
        try simp only [Act.put, List.setIfInBounds_toArray, List.set_cons_zero, List.set_cons_succ]
        refine takeH (i := 15) (v := ?vv34) rfl (by kernel_rfl) (by kernel_rfl) (by kernel_rfl) (fun _ _ _ h => h) (Or.inl ⟨by rfl, ?hy34⟩) (by assumption) ?rest34
        case hy34 => (intro w hSw; (try dsimp only at hSw); go_simp; try with_reducible rfl)
        try simp only [Act.put, List.setIfInBounds_toArray, List.set_cons_zero, List.set_cons_succ]
        refine takeH (i := 16) (v := ?vv35) rfl (by kernel_rfl) (by kernel_rfl) (by kernel_rfl) (fun _ _ _ h => h) (Or.inl ⟨by rfl, ?hy35⟩) (by assumption) ?rest35
        case hy35 => (intro w hSw; (try dsimp only at hSw); go_simp; try with_reducible rfl)
        try simp only [Act.put, List.setIfInBounds_toArray, List.set_cons_zero, List.set_cons_succ]
        refine takeH (i := 17) (v := ?vv36) rfl (by kernel_rfl) (by kernel_rfl) (by kernel_rfl) (fun _ _ _ h => h) (Or.inl ⟨by rfl, ?hy36⟩) (by assumption) ?rest36
        case hy36 => (intro w hSw; (try dsimp only at hSw); go_simp; try with_reducible rfl)
        try simp only [Act.put, List.setIfInBounds_toArray, List.set_cons_zero, List.set_cons_succ]
        refine takeH (i := 18) (v := ?vv37) rfl (by kernel_rfl) (by kernel_rfl) (by kernel_rfl) (fun _ _ _ h => h) (Or.inl ⟨by rfl, ?hy37⟩) (by assumption) ?rest37
        case hy37 => (intro w hSw; (try dsimp only at hSw); go_simp; try with_reducible rfl)
        try simp only [Act.put, List.setIfInBounds_toArray, List.set_cons_zero, List.set_cons_succ]
        refine takeH (i := 19) (v := ?vv38) rfl (by kernel_rfl) (by kernel_rfl) (by kernel_rfl) (fun _ _ _ h => h) (Or.inl ⟨by rfl, ?hy38⟩) (by assumption) ?rest38
        case hy38 => (intro w hSw; (try dsimp only at hSw); go_simp; try with_reducible rfl)
        try simp only [Act.put, List.setIfInBounds_toArray, List.set_cons_zero, List.set_cons_succ]
        refine takeH (i := 20) (v := ?vv39) rfl (by kernel_rfl) (by kernel_rfl) (by kernel_rfl) (fun _ _ _ h => h) (Or.inl ⟨by rfl, ?hy39⟩) (by assumption) ?rest39
        case hy39 => (intro w hSw; (try dsimp only at hSw); go_simp; try with_reducible rfl)
        try simp only [Act.put, List.setIfInBounds_toArray, List.set_cons_zero, List.set_cons_succ]
        refine takeH (i := 21) (v := ?vv40) rfl (by kernel_rfl) (by kernel_rfl) (by kernel_rfl) (fun _ _ _ h => h) (Or.inl ⟨by rfl, ?hy40⟩) (by assumption) ?rest40
        case hy40 => (intro w hSw; (try dsimp only at hSw); go_simp; try with_reducible rfl)
        try simp only [Act.put, List.setIfInBounds_toArray, List.set_cons_zero, List.set_cons_succ]
        refine takeH (i := 22) (v := .bool true) rfl (by kernel_rfl) (by kernel_rfl) (by kernel_rfl) (fun _ _ _ h => h) (Or.inl ⟨by rfl, ?hy41⟩) (by assumption) ?rest41
        case hy41 => (intro w hSw; (try dsimp only at hSw); go_simp; try simp [*]; try omega)
        try simp only [Act.put, List.setIfInBounds_toArray, List.set_cons_zero, List.set_cons_succ]
        refine takeH (i := 23) (v := ?vv42) rfl (by kernel_rfl) (by kernel_rfl) (by kernel_rfl) (fun _ _ _ h => h) (Or.inl ⟨by rfl, ?hy42⟩) (by assumption) ?rest42
        case hy42 => (intro w hSw; (try dsimp only at hSw); go_simp; try with_reducible rfl)
        try simp only [Act.put, List.setIfInBounds_toArray, List.set_cons_zero, List.set_cons_succ]
        refine takeH (i := 24) (v := ?vv43) rfl (by kernel_rfl) (by kernel_rfl) (by kernel_rfl) (fun _ _ _ h => h) (Or.inl ⟨by rfl, ?hy43⟩) (by assumption) ?rest43
        case hy43 => (intro w hSw; (try dsimp only at hSw); go_simp; try with_reducible rfl)
        try simp only [Act.put, List.setIfInBounds_toArray, List.set_cons_zero, List.set_cons_succ]
        clear hHeld
        refine wpAnyH_done (by kernel_rfl) ?_ _
        have fzN : ∀ n o, (W1.drewN n).frozen? ⟨go, o, none⟩ = false := fun n o => frozen_of_heap (w := W1.drewN n) hcur1 o
        have hch : ∀ n, Chg (fun m => m = go) w (W1.drewN n) := fun n => have h9 := hc.trans (Chg.of_below (fun m => m = go) hBr); ⟨h9.os, h9.tape, h9.output, h9.size, h9.block⟩
        have HCH : Hid _ := hch
        have HC1 : Hid (∀ n, (W1.drewN n).heap[go]? = some (.cells cur 121 (0, 0))) := fun n => hcur1
        clear hch hcur1 hrd hiW hwn u0 u1 u2
        go_wp2
        go_roundw
        case rel =>
          refine ⟨k + 1, ((cur.setIfInBounds (k * 3) (I64 (-77))).setIfInBounds (k * 3 + 1) (I64 0)).setIfInBounds (k * 3 + 2) (.slice none 0 0), by omega, by go_num, rfl, (((HCH.out _).setCell (p := ⟨go, k * 3, none⟩) (.inl rfl) _).setCell (p := ⟨go, k * 3 + 1, none⟩) (.inl rfl) _).setCell (p := ⟨go, k * 3 + 2, none⟩) (.inl rfl) _, ?_, by simpa using hsz, ?_⟩
          · exact heap_setCell_same _ go (k * 3 + 2) _ _ _ (heap_setCell_same _ go (k * 3 + 1) _ _ _ (heap_setCell_same _ go (k * 3) _ _ _ (HC1.out _)))
          · intro j hj
            rw [Array.getElem?_setIfInBounds_ne (by omega), Array.getElem?_setIfInBounds_ne (by omega), Array.getElem?_setIfInBounds_ne (by omega)]
            exact HJ.out j (by omega)
        case measure => simp [intOf]; omega
      · have hkx' : ¬ (k : Int) < (X.length : Int) := by omega
        obtain ⟨q0, q1, q2⟩ := HCS.out k spareL (by rw [List.getElem?_append_right (by simp; omega)]; simp [hDX]; have : k - X.length = 0 ∨ k - X.length = 1 ∨ k - X.length = 2 := by omega
                                                    rcases this with e | e | e <;> rw [e] <;> rfl)
        simp only [spareL] at q0 q1 q2
        go_wp2_with fail
        obtain ⟨W1, hW1⟩ : ∃ W1, wr.alloc (.cells #[I64 77, I64 0, .slice none 0 0] 121) = W1 := ⟨_, rfl⟩
        have hBr : Below wr.heap.size wr W1 := by rw [← hW1]; exact (Below.refl _ wr).alloc (Nat.le_refl _) _
        have hwn : W1.heap[wr.heap.size]? = some (.cells #[I64 77, I64 0, .slice none 0 0] 121 (0, 0)) := by rw [← hW1]; exact heap_alloc_new wr _
        rw [hW1]
        clear hW1
        have hcur1 := (hBr.block go (Array.getElem?_eq_some_iff.1 hcur).1).trans hcur
        have u0 : W1.cell? ⟨wr.heap.size, 0, none⟩ = some (I64 77) := by rw [cell_of_heap hwn]; rfl
        have u1 : W1.cell? ⟨wr.heap.size, 1, none⟩ = some (I64 0) := by rw [cell_of_heap hwn]; rfl
        have u2 : W1.cell? ⟨wr.heap.size, 2, none⟩ = some (.slice none 0 0) := by rw [cell_of_heap hwn]; rfl
        have c0 : W1.cell? ⟨go, k * 3, none⟩ = some (I64 77) := by rw [cell_of_heap hcur1, HJ.out _ (by omega)]; exact q0
        have c1 : W1.cell? ⟨go, k * 3 + 1, none⟩ = some (I64 0) := by rw [cell_of_heap hcur1, HJ.out _ (by omega)]; exact q1
        have c2 : W1.cell? ⟨go, k * 3 + 2, none⟩ = some (.slice none 0 0) := by rw [cell_of_heap hcur1, HJ.out _ (by omega)]; exact q2
        have hsi : ∀ n, Calls Tryz.prog 72 #[.slice none 0 0, .slice none 0 0] (W1.drewN n) fun e w' => e = .returned (.bool true) ∧ ∃ m, w' = (W1.drewN n).drewN m := by
          intro n
          have h9 := sameInts_at none none 0 0 [] [] (W1.drewN n) (.inl rfl) (.inl rfl) (Nat.zero_le _)
          simpa using h9
        refine wp_region_held_drew (S := fun w' => w'.cell? ⟨go, k * 3 + 2, none⟩ = some (.slice none 0 0) ∧ w'.cell? ⟨wr.heap.size, 2, none⟩ = some (.slice none 0 0)) (by kernel_rfl) ⟨c2, u2⟩ (fun hHeld => ?_)
        refine takeH (i := 0) (v := ?vv44) rfl (by kernel_rfl) (by kernel_rfl) (by kernel_rfl) (fun _ _ _ h => h) (Or.inl ⟨by rfl, ?hy44⟩) (by assumption) ?rest44
        case hy44 => (intro w hSw; (try dsimp only at hSw); go_simp; try with_reducible rfl)
        try simp only [Act.put, List.setIfInBounds_toArray, List.set_cons_zero, List.set_cons_succ]
        refine takeH (i := 1) (v := ?vv45) rfl (by kernel_rfl) (by kernel_rfl) (by kernel_rfl) (fun _ _ _ h => h) (Or.inl ⟨by rfl, ?hy45⟩) (by assumption) ?rest45
        case hy45 => (intro w hSw; (try dsimp only at hSw); go_simp; try with_reducible rfl)
        try simp only [Act.put, List.setIfInBounds_toArray, List.set_cons_zero, List.set_cons_succ]
        refine takeH (i := 2) (v := ?vv46) rfl (by kernel_rfl) (by kernel_rfl) (by kernel_rfl) (fun _ _ _ h => h) (Or.inl ⟨by rfl, ?hy46⟩) (by assumption) ?rest46
        case hy46 => (intro w hSw; (try dsimp only at hSw); go_simp; try with_reducible rfl)
        try simp only [Act.put, List.setIfInBounds_toArray, List.set_cons_zero, List.set_cons_succ]
        refine takeH (i := 3) (v := ?vv47) rfl (by kernel_rfl) (by kernel_rfl) (by kernel_rfl) (fun _ _ _ h => h) (Or.inl ⟨by rfl, ?hy47⟩) (by assumption) ?rest47
        case hy47 => (intro w hSw; (try dsimp only at hSw); go_simp; try with_reducible rfl)
        try simp only [Act.put, List.setIfInBounds_toArray, List.set_cons_zero, List.set_cons_succ]
        refine takeH (i := 4) (v := ?vv48) rfl (by kernel_rfl) (by kernel_rfl) (by kernel_rfl) (fun _ _ _ h => h) (Or.inl ⟨by rfl, ?hy48⟩) (by assumption) ?rest48
        case hy48 => (intro w hSw; (try dsimp only at hSw); go_simp; try with_reducible rfl)
        try simp only [Act.put, List.setIfInBounds_toArray, List.set_cons_zero, List.set_cons_succ]
        refine takeH (i := 5) (v := ?vv49) rfl (by kernel_rfl) (by kernel_rfl) (by kernel_rfl) (fun _ _ _ h => h) (Or.inl ⟨by rfl, ?hy49⟩) (by assumption) ?rest49
        case hy49 => (intro w hSw; (try dsimp only at hSw); go_simp; try with_reducible rfl)
        try simp only [Act.put, List.setIfInBounds_toArray, List.set_cons_zero, List.set_cons_succ]
        refine takeH (i := 6) (v := ?vv50) rfl (by kernel_rfl) (by kernel_rfl) (by kernel_rfl) (fun _ _ _ h => h) (Or.inl ⟨by rfl, ?hy50⟩) (by assumption) ?rest50
        case hy50 => (intro w hSw; (try dsimp only at hSw); go_simp; try with_reducible rfl)
        try simp only [Act.put, List.setIfInBounds_toArray, List.set_cons_zero, List.set_cons_succ]
        refine doneH (i := 7) rfl (by kernel_rfl) (by rfl) (fun K hK => ?_)
        have HK : Hid _ := hK
        clear hK
        go_simp
        refine (hsi 1).mono ?_
        rintro e w7 ⟨rfl, m2, hw7⟩
        subst hw7
        clear hHeld
        refine HK.out _ _ ⟨c2, u2⟩ (fun hHeld => ?_)
        clear HK K
        try simp only [Act.put, List.setIfInBounds_toArray, List.set_cons_zero, List.set_cons_succ]
        refine takeH (i := 8) (v := ?vv51) rfl (by kernel_rfl) (by kernel_rfl) (by kernel_rfl) (fun _ _ _ h => h) (Or.inl ⟨by rfl, ?hy51⟩) (by assumption) ?rest51
        case hy51 => (intro w hSw; (try dsimp only at hSw); go_simp; try with_reducible rfl)
        try simp only [Act.put, List.setIfInBounds_toArray, List.set_cons_zero, List.set_cons_succ]
        clear hHeld hsi
        refine wpAnyH_done (by kernel_rfl) ?_ _
        go_wp2_with fail
        refine wp_region_held_drew (S := fun w' => (w'.cell? ⟨go, k * 3, none⟩ = some (I64 77) ∧ w'.cell? ⟨go, k * 3 + 1, none⟩ = some (I64 0)) ∧ w'.cell? ⟨wr.heap.size, 0, none⟩ = some (I64 77) ∧ w'.cell? ⟨wr.heap.size, 1, none⟩ = some (I64 0)) (by kernel_rfl) ⟨⟨c0, c1⟩, u0, u1⟩ (fun hHeld => ?_)
        refine takeH (i := 0) (v := ?vv52) rfl (by kernel_rfl) (by kernel_rfl) (by kernel_rfl) (fun _ _ _ h => h) (Or.inl ⟨by rfl, ?hy52⟩) (by assumption) ?rest52
        case hy52 => (intro w hSw; (try dsimp only at hSw); go_simp; try with_reducible rfl)
        try simp only [Act.put, List.setIfInBounds_toArray, List.set_cons_zero, List.set_cons_succ]
        refine takeH (i := 1) (v := ?vv53) rfl (by kernel_rfl) (by kernel_rfl) (by kernel_rfl) (fun _ _ _ h => h) (Or.inl ⟨by rfl, ?hy53⟩) (by assumption) ?rest53
        case hy53 => (intro w hSw; (try dsimp only at hSw); go_simp; try with_reducible rfl)
        try simp only [Act.put, List.setIfInBounds_toArray, List.set_cons_zero, List.set_cons_succ]
        refine takeH (i := 2) (v := ?vv54) rfl (by kernel_rfl) (by kernel_rfl) (by kernel_rfl) (fun _ _ _ h => h) (Or.inl ⟨by rfl, ?hy54⟩) (by assumption) ?rest54
        case hy54 => (intro w hSw; (try dsimp only at hSw); go_simp; try with_reducible rfl)
        try simp only [Act.put, List.setIfInBounds_toArray, List.set_cons_zero, List.set_cons_succ]
        refine takeH (i := 3) (v := ?vv55) rfl (by kernel_rfl) (by kernel_rfl) (by kernel_rfl) (fun _ _ _ h => h) (Or.inl ⟨by rfl, ?hy55⟩) (by assumption) ?rest55
        case hy55 => (intro w hSw; (try dsimp only at hSw); go_simp; try with_reducible rfl)
        try simp only [Act.put, List.setIfInBounds_toArray, List.set_cons_zero, List.set_cons_succ]
        refine takeH (i := 4) (v := ?vv56) rfl (by kernel_rfl) (by kernel_rfl) (by kernel_rfl) (fun _ _ _ h => h) (Or.inl ⟨by rfl, ?hy56⟩) (by assumption) ?rest56
        case hy56 => (intro w hSw; (try dsimp only at hSw); go_simp; try with_reducible rfl)
        try simp only [Act.put, List.setIfInBounds_toArray, List.set_cons_zero, List.set_cons_succ]
        refine takeH (i := 5) (v := ?vv57) rfl (by kernel_rfl) (by kernel_rfl) (by kernel_rfl) (fun _ _ _ h => h) (Or.inl ⟨by rfl, ?hy57⟩) (by assumption) ?rest57
        case hy57 => (intro w hSw; (try dsimp only at hSw); go_simp; try with_reducible rfl)
        try simp only [Act.put, List.setIfInBounds_toArray, List.set_cons_zero, List.set_cons_succ]
        refine takeH (i := 6) (v := ?vv58) rfl (by kernel_rfl) (by kernel_rfl) (by kernel_rfl) (fun _ _ _ h => h) (Or.inl ⟨by rfl, ?hy58⟩) (by assumption) ?rest58
        case hy58 => (intro w hSw; (try dsimp only at hSw); go_simp; try with_reducible rfl)
        try simp only [Act.put, List.setIfInBounds_toArray, List.set_cons_zero, List.set_cons_succ]
        refine takeH (i := 7) (v := ?vv59) rfl (by kernel_rfl) (by kernel_rfl) (by kernel_rfl) (fun _ _ _ h => h) (Or.inl ⟨by rfl, ?hy59⟩) (by assumption) ?rest59
        case hy59 => (intro w hSw; (try dsimp only at hSw); go_simp; try with_reducible rfl)
        try simp only [Act.put, List.setIfInBounds_toArray, List.set_cons_zero, List.set_cons_succ]
        refine takeH (i := 8) (v := ?vv60) rfl (by kernel_rfl) (by kernel_rfl) (by kernel_rfl) (fun _ _ _ h => h) (Or.inl ⟨by rfl, ?hy60⟩) (by assumption) ?rest60
        case hy60 => (intro w hSw; (try dsimp only at hSw); go_simp; try with_reducible rfl)
        try simp only [Act.put, List.setIfInBounds_toArray, List.set_cons_zero, List.set_cons_succ]
        refine takeH (i := 9) (v := ?vv61) rfl (by kernel_rfl) (by kernel_rfl) (by kernel_rfl) (fun _ _ _ h => h) (Or.inl ⟨by rfl, ?hy61⟩) (by assumption) ?rest61
        case hy61 => (intro w hSw; (try dsimp only at hSw); go_simp; try with_reducible rfl)
        try simp only [Act.put, List.setIfInBounds_toArray, List.set_cons_zero, List.set_cons_succ]
        refine takeH (i := 10) (v := ?vv62) rfl (by kernel_rfl) (by kernel_rfl) (by kernel_rfl) (fun _ _ _ h => h) (Or.inl ⟨by rfl, ?hy62⟩) (by assumption) ?rest62
        case hy62 => (intro w hSw; (try dsimp only at hSw); go_simp; try with_reducible rfl)
        try simp only [Act.put, List.setIfInBounds_toArray, List.set_cons_zero, List.set_cons_succ]
        refine takeH (i := 11) (v := ?vv63) rfl (by kernel_rfl) (by kernel_rfl) (by kernel_rfl) (fun _ _ _ h => h) (Or.inl ⟨by rfl, ?hy63⟩) (by assumption) ?rest63
        case hy63 => (intro w hSw; (try dsimp only at hSw); go_simp; try with_reducible rfl)
        try simp only [Act.put, List.setIfInBounds_toArray, List.set_cons_zero, List.set_cons_succ]
        refine takeH (i := 12) (v := .bool true) rfl (by kernel_rfl) (by kernel_rfl) (by kernel_rfl) (fun _ _ _ h => h) (Or.inl ⟨by rfl, ?hy64⟩) (by assumption) ?rest64
        case hy64 => (intro w hSw; (try dsimp only at hSw); go_simp; try simp [*]; try omega)
        try simp only [Act.put, List.setIfInBounds_toArray, List.set_cons_zero, List.set_cons_succ]
        refine takeH (i := 13) (v := ?vv65) rfl (by kernel_rfl) (by kernel_rfl) (by kernel_rfl) (fun _ _ _ h => h) (Or.inl ⟨by rfl, ?hy65⟩) (by assumption) ?rest65
        case hy65 => (intro w hSw; (try dsimp only at hSw); go_simp; try with_reducible rfl)
        try simp only [Act.put, List.setIfInBounds_toArray, List.set_cons_zero, List.set_cons_succ]
        refine takeH (i := 14) (v := ?vv66) rfl (by kernel_rfl) (by kernel_rfl) (by kernel_rfl) (fun _ _ _ h => h) (Or.inl ⟨by rfl, ?hy66⟩) (by assumption) ?rest66
        case hy66 => (intro w hSw; (try dsimp only at hSw); go_simp; try with_reducible rfl)
        try simp only [Act.put, List.setIfInBounds_toArray, List.set_cons_zero, List.set_cons_succ]
        refine takeH (i := 15) (v := ?vv67) rfl (by kernel_rfl) (by kernel_rfl) (by kernel_rfl) (fun _ _ _ h => h) (Or.inl ⟨by rfl, ?hy67⟩) (by assumption) ?rest67
        case hy67 => (intro w hSw; (try dsimp only at hSw); go_simp; try with_reducible rfl)
        try simp only [Act.put, List.setIfInBounds_toArray, List.set_cons_zero, List.set_cons_succ]
        refine takeH (i := 16) (v := ?vv68) rfl (by kernel_rfl) (by kernel_rfl) (by kernel_rfl) (fun _ _ _ h => h) (Or.inl ⟨by rfl, ?hy68⟩) (by assumption) ?rest68
        case hy68 => (intro w hSw; (try dsimp only at hSw); go_simp; try with_reducible rfl)
        try simp only [Act.put, List.setIfInBounds_toArray, List.set_cons_zero, List.set_cons_succ]
        refine takeH (i := 17) (v := ?vv69) rfl (by kernel_rfl) (by kernel_rfl) (by kernel_rfl) (fun _ _ _ h => h) (Or.inl ⟨by rfl, ?hy69⟩) (by assumption) ?rest69
        case hy69 => (intro w hSw; (try dsimp only at hSw); go_simp; try with_reducible rfl)
        try simp only [Act.put, List.setIfInBounds_toArray, List.set_cons_zero, List.set_cons_succ]
        refine takeH (i := 18) (v := ?vv70) rfl (by kernel_rfl) (by kernel_rfl) (by kernel_rfl) (fun _ _ _ h => h) (Or.inl ⟨by rfl, ?hy70⟩) (by assumption) ?rest70
        case hy70 => (intro w hSw; (try dsimp only at hSw); go_simp; try with_reducible rfl)
        try simp only [Act.put, List.setIfInBounds_toArray, List.set_cons_zero, List.set_cons_succ]
        refine takeH (i := 19) (v := ?vv71) rfl (by kernel_rfl) (by kernel_rfl) (by kernel_rfl) (fun _ _ _ h => h) (Or.inl ⟨by rfl, ?hy71⟩) (by assumption) ?rest71
        case hy71 => (intro w hSw; (try dsimp only at hSw); go_simp; try with_reducible rfl)
        try simp only [Act.put, List.setIfInBounds_toArray, List.set_cons_zero, List.set_cons_succ]
        refine takeH (i := 20) (v := ?vv72) rfl (by kernel_rfl) (by kernel_rfl) (by kernel_rfl) (fun _ _ _ h => h) (Or.inl ⟨by rfl, ?hy72⟩) (by assumption) ?rest72
        case hy72 => (intro w hSw; (try dsimp only at hSw); go_simp; try with_reducible rfl)
        try simp only [Act.put, List.setIfInBounds_toArray, List.set_cons_zero, List.set_cons_succ]
        refine takeH (i := 21) (v := ?vv73) rfl (by kernel_rfl) (by kernel_rfl) (by kernel_rfl) (fun _ _ _ h => h) (Or.inl ⟨by rfl, ?hy73⟩) (by assumption) ?rest73
        case hy73 => (intro w hSw; (try dsimp only at hSw); go_simp; try with_reducible rfl)
        try simp only [Act.put, List.setIfInBounds_toArray, List.set_cons_zero, List.set_cons_succ]
        refine takeH (i := 22) (v := .bool true) rfl (by kernel_rfl) (by kernel_rfl) (by kernel_rfl) (fun _ _ _ h => h) (Or.inl ⟨by rfl, ?hy74⟩) (by assumption) ?rest74
        case hy74 => (intro w hSw; (try dsimp only at hSw); go_simp; try simp [*]; try omega)
        try simp only [Act.put, List.setIfInBounds_toArray, List.set_cons_zero, List.set_cons_succ]
        refine takeH (i := 23) (v := ?vv75) rfl (by kernel_rfl) (by kernel_rfl) (by kernel_rfl) (fun _ _ _ h => h) (Or.inl ⟨by rfl, ?hy75⟩) (by assumption) ?rest75
        case hy75 => (intro w hSw; (try dsimp only at hSw); go_simp; try with_reducible rfl)
        try simp only [Act.put, List.setIfInBounds_toArray, List.set_cons_zero, List.set_cons_succ]
        refine takeH (i := 24) (v := ?vv76) rfl (by kernel_rfl) (by kernel_rfl) (by kernel_rfl) (fun _ _ _ h => h) (Or.inl ⟨by rfl, ?hy76⟩) (by assumption) ?rest76
        case hy76 => (intro w hSw; (try dsimp only at hSw); go_simp; try with_reducible rfl)
        try simp only [Act.put, List.setIfInBounds_toArray, List.set_cons_zero, List.set_cons_succ]
        clear hHeld
        refine wpAnyH_done (by kernel_rfl) ?_ _
        have fzN : ∀ n o, (W1.drewN n).frozen? ⟨go, o, none⟩ = false := fun n o => frozen_of_heap (w := W1.drewN n) hcur1 o
        have hch : ∀ n, Chg (fun m => m = go) w (W1.drewN n) := fun n => have h9 := hc.trans (Chg.of_below (fun m => m = go) hBr); ⟨h9.os, h9.tape, h9.output, h9.size, h9.block⟩
        have HCH : Hid _ := hch
        have HC1 : Hid (∀ n, (W1.drewN n).heap[go]? = some (.cells cur 121 (0, 0))) := fun n => hcur1
        clear hch hcur1 hwn u0 u1 u2
        go_wp2
        go_roundw
        case rel =>
          refine ⟨k + 1, ((cur.setIfInBounds (k * 3) (I64 (-77))).setIfInBounds (k * 3 + 1) (I64 0)).setIfInBounds (k * 3 + 2) (.slice none 0 0), by omega, by go_num, rfl, (((HCH.out _).setCell (p := ⟨go, k * 3, none⟩) (.inl rfl) _).setCell (p := ⟨go, k * 3 + 1, none⟩) (.inl rfl) _).setCell (p := ⟨go, k * 3 + 2, none⟩) (.inl rfl) _, ?_, by simpa using hsz, ?_⟩
          · exact heap_setCell_same _ go (k * 3 + 2) _ _ _ (heap_setCell_same _ go (k * 3 + 1) _ _ _ (heap_setCell_same _ go (k * 3) _ _ _ (HC1.out _)))
          · intro j hj
            rw [Array.getElem?_setIfInBounds_ne (by omega), Array.getElem?_setIfInBounds_ne (by omega), Array.getElem?_setIfInBounds_ne (by omega)]
            exact HJ.out j (by omega)
        case measure => simp [intOf]; omega
    · have hlt9 : ¬ (k : Int) < (X.length : Int) + 3 := by omega
      clear hcur hsz HJ hlt hk
      have hrow9 : ∀ (i : Nat) (d : Dp), D[i]? = some d → ∃ cur : Array Value, w.heap[d.g]? = some (.cells cur 3 (0, 0)) ∧ d.l.vs.length + 3 ≤ cur.size ∧ d.l.vs.length + 3 ≤ maxLen := fun i d hd => by
        rcases (HDA.out.each d (List.mem_of_getElem? hd)).2 with ⟨h', _⟩ | ⟨g', cap, cur, h', _, h3, hle, hm, hs, _⟩
        · cases h'
        · have he := h'
          simp only [Dp.a, Value.slice.injEq, Option.some.injEq, Addr.mk.injEq, and_true] at he
          exact ⟨cur, by rw [he.1]; exact h3, by omega, by omega⟩
      have HR9 : Hid _ := hrow9
      clear hrow9
      have hst : ∀ (i : Nat) (d : Dp), 0 ≤ i → D[i]? = some d → wr.heap[d.g]? = w.heap[d.g]? := fun i d _ hd => by
        have hdm := List.mem_of_getElem? hd
        exact hc.block d.g ((HDA.out.each d hdm).lt d.g rfl).2 (fun e => (HDA.out.ne2 d hdm).1 (by rw [e]; rfl))
      have hcS : Chg (fun m => m = go ∨ ∃ d ∈ D, m = d.g) w wr := hc.mono (fun m _ e => .inl e)
      clear hc
      go_wp2
      go_loopw [12] (fun ii wr2 => ∃ j : Nat, j ≤ X.length ∧ ii = .int .i64 j ∧ Chg (fun m => m = go ∨ ∃ d ∈ D, m = d.g) w wr2 ∧ Hid (∀ (i : Nat) (d : Dp), j ≤ i → D[i]? = some d → wr2.heap[d.g]? = w.heap[d.g]?)) (fun ii _ => X.length - (intOf ii).toNat)
      case atStart => exact ⟨0, by omega, rfl, hcS, hst⟩
      case round =>
        clear hcS hst hB
        obtain ⟨j, hj, rfl, hcS, HST⟩ := hrel
        by_cases hjl : j < X.length
        · have hjl' : (j : Int) < (X.length : Int) := by omega
          obtain ⟨d, hd⟩ : ∃ d, D[j]? = some d := ⟨_, List.getElem?_eq_getElem (by omega)⟩
          have hdm := List.mem_of_getElem? hd
          obtain ⟨gA, cA, hva, hgA, hcA⟩ := one_cell (w := w) HDA.out.all (j := j) (u := d.a) (by simp [hd])
          simp only [Value.slice.injEq] at hva
          obtain ⟨rfl, hvl, rfl⟩ := hva
          clear hvl
          have hcA1 := hcS.cell hcA (fun e => by
            rcases e with e | ⟨d', hd', e⟩
            · exact HDA.out.ne1 go rfl (by rw [← e]; rfl)
            · exact (HDA.out.ne2 d' hd').2 (by rw [← e]; rfl))
          obtain ⟨cur, h1, h2, h3⟩ := HR9.out j d hd
          have hov := over_at d.g d.c (d.l.vs.length + 3) cur wr ((HST.out j d (Nat.le_refl _) hd).trans h1) h2 h3
          have HAP : Hid (∀ (i : Nat) (d' : Dp), j + 1 ≤ i → D[i]? = some d' → d'.g ≠ d.g) := fun i d' hi hd' => by
            have h9 := List.pairwise_iff_getElem.1 HDA.out.ap
            obtain ⟨l1, e1⟩ := List.getElem?_eq_some_iff.1 hd
            obtain ⟨l2, e2⟩ := List.getElem?_eq_some_iff.1 hd'
            have h8 := h9 j i l1 l2 (by omega)
            rw [e1, e2] at h8
            exact fun e => h8 e.symm
          have HDD : Hid (∀ (i : Nat) (d' : Dp), D[i]? = some d' → d'.g < w.heap.size) := fun i d' hd' => ((HDA.out.each d' (List.mem_of_getElem? hd')).lt d'.g rfl).2
          simp only [Dp.a] at hcA1
          clear h1 h2 h3 hcA
          go_wp2_with fail
          refine hov.mono ?_
          rintro e w9 ⟨rfl, hc9, _⟩
          clear hov
          have hcN : Chg (fun m => m = go ∨ ∃ d ∈ D, m = d.g) w w9 := hcS.then hc9 (fun m e => .inl (.inr ⟨d, hdm, e⟩))
          have HSN : Hid (∀ (i : Nat) (d' : Dp), j + 1 ≤ i → D[i]? = some d' → w9.heap[d'.g]? = w.heap[d'.g]?) := fun i d' hi hd' => (hc9.block d'.g (Nat.lt_of_lt_of_le (HDD.out i d' hd') hcS.size) (HAP.out i d' hi hd')).trans (HST.out i d' (by omega) hd')
          clear hcA1
          go_wp2
          go_roundw
          case rel => exact ⟨j + 1, by omega, by go_num, hcN, HSN⟩
          case measure => simp [intOf]; omega
        · go_wp2
          go_ret
          exact ⟨rfl, hcS.mono (fun m _ e => e.elim (fun e => .inl (by rw [e]; rfl)) .inr)⟩
end Go.Proofs.YtgebcnnenhgkcaaGreat
/- Judge's own parts: IsAhead of any number, Agree, who is enough, right proofs. -/
namespace Go.Proofs.YtgebcnnenhgkcaaGreat
open Go.RowKit Go.Shelf
attribute [local go_sem] Oper.semAt_some

/-- No block: nobody is ahead of it. -/
theorem ahead1_out (n l Bb Bt b o g cap : Nat) (ps : List Int) (k : Int) (hk : k ≠ 0) (hno : hasB ps.length k = false) (J Jx : List Int → World → Prop)
    (W : World) (hBb : W.cell? ⟨Bb, 0, none⟩ = some (.int .i64 k)) (hBt : W.cell? ⟨Bt, 0, none⟩ = some (.pointer (some ⟨b, o, none⟩)))
    (hpv : W.cell? ⟨b, o, none⟩ = some (.slice (some ⟨g, 0, none⟩) ps.length cap)) (h0 : J [] W) :
    CallsIn Fence.wide n Tryz.prog 144 #[.func (.yield l) #[] #[], .pointer (some ⟨Bb, 0, none⟩), .pointer (some ⟨Bt, 0, none⟩)] W fun e W' => (∃ v, e = .returned v) ∧
      ((∃ ys, ys = [] ∧ J ys W') ∨ (∃ pre : List Int, pre <+: [] ∧ Jx pre W')) := by
  have hfn : Fence.wide.fn 86 := trivial
  have hkb : (k != 0) = true := by simpa using hk
  refine callsIn_of_wp Tryz.func144 rfl trivial ?_ rfl
  simp only [Tryz.ntmps144, List.size_toArray, List.length_cons, List.length_nil, Nat.reduceAdd, Nat.reduceSub, Array.replicate_succ, Array.replicate_zero, List.push_toArray, List.append_toArray, List.nil_append, List.cons_append]
  gi_wp2
  gi_loopw [4] (fun p wr => p = .int .i64 k ∧ wr = W) (fun _ _ => 0)
  case atStart => exact ⟨rfl, rfl⟩
  case round =>
    obtain ⟨rfl, rfl⟩ := hrel
    gi_wp2_with (refine ⟨fun h => (by cases h), ?_⟩; gi_at_call 86; refine (callsIn_wide.2 (has_at b o (some ⟨g, 0, none⟩) ps.length cap k _ hpv)).mono ?_; rintro e w' ⟨rfl, rfl⟩; rw [hno])
    go_end0
    exact ⟨⟨_, rfl⟩, .inl ⟨[], rfl, h0⟩⟩
theorem ahead_none (n Bb Bt n₀ b o g cap : Nat) (ps : List Int) (k : Int) (hk : k ≠ 0) (hno : hasB ps.length k = false) (w : World) (hBb : Bb < n₀) (hlt : Bt < n₀) (hlb : b < n₀) (hn : n₀ ≤ w.heap.size)
    (hb : w.cell? ⟨Bb, 0, none⟩ = some (.int .i64 k)) (ht : w.cell? ⟨Bt, 0, none⟩ = some (.pointer (some ⟨b, o, none⟩))) (hA : w.cell? ⟨b, o, none⟩ = some (.slice (some ⟨g, 0, none⟩) ps.length cap)) :
    SeqStopsK Fence.wide n Tryz.prog 144 #[.pointer (some ⟨Bb, 0, none⟩), .pointer (some ⟨Bt, 0, none⟩)] (fun x : Int => #[Value.int .i64 x]) (Below n₀) (fun ys => ys = []) (fun pre => pre <+: []) 0 w :=
  fun l J Jx W hW _ _ _ h0 =>
    ahead1_out n l Bb Bt b o g cap ps k hk hno J Jx W (((hW.mono hn).cell (p := ⟨Bb, 0, none⟩) hBb).trans hb) (((hW.mono hn).cell (p := ⟨Bt, 0, none⟩) hlt).trans ht) (((hW.mono hn).cell (p := ⟨b, o, none⟩) hlb).trans hA) h0

set_option maxRecDepth 100000 in
set_option maxHeartbeats 2000000 in
theorem isAhead_out (b o g cap : Nat) (ps : List Int) (a k : Int) (hk : k ≠ 0) (hno : hasB ps.length k = false) (w : World) (hA : TreeAt w b o g cap ps) :
    Calls Tryz.prog 112 #[.pointer (some ⟨b, o, none⟩), .int .i64 a, .int .i64 k] w fun e w' => e = .returned (.bool false) ∧ Below w.heap.size w w' := by
  have hfn : Fence.wide.fn 121 := trivial
  have hlb := hA.lt_b
  refine (callsIn_wide (n := 3)).1 ?_
  refine callsIn_of_wp_marks Tryz.func112 rfl trivial ?_ rfl
  simp only [Tryz.ntmps112, List.size_toArray, List.length_cons, List.length_nil, Nat.reduceAdd, Nat.reduceSub, Array.replicate_succ, Array.replicate_zero, List.push_toArray, List.append_toArray, List.nil_append, List.cons_append]
  gi_wp2_with (gi_at_call 121; refine (callsIn_wide.2 (ahead_makes b o k _)).mono ?_; rintro e w' ⟨rfl, rfl⟩)
  try simp only [World.size_alloc]
  obtain ⟨W0, hW0⟩ : ∃ W0, (((w.alloc (.cells #[.int .i64 a] 3)).alloc (.cells #[.bool false] 4)).alloc (.cells #[.pointer (some ⟨b, o, none⟩)] 147)).alloc (.cells #[.int .i64 k] 3) = W0 := ⟨_, rfl⟩
  have hs0 : W0.heap.size = w.heap.size + 1 + 1 + 1 + 1 := by rw [← hW0]; simp [go_sem]
  have c0 : W0.cell? ⟨w.heap.size, 0, none⟩ = some (.int .i64 a) := by rw [← hW0]; simp [go_sem]
  have c1 : W0.cell? ⟨w.heap.size + 1, 0, none⟩ = some (.bool false) ∧ W0.frozen? ⟨w.heap.size + 1, 0, none⟩ = false := by rw [← hW0]; simp [go_sem]
  have c2 : W0.cell? ⟨w.heap.size + 1 + 1, 0, none⟩ = some (.pointer (some ⟨b, o, none⟩)) := by rw [← hW0]; simp [go_sem]
  have c3 : W0.cell? ⟨w.heap.size + 1 + 1 + 1, 0, none⟩ = some (.int .i64 k) := by rw [← hW0]; simp [go_sem]
  have hB0 : Below w.heap.size w W0 := by rw [← hW0]; exact ((((Below.refl _ w).alloc (Nat.le_refl _) _).alloc (by simp) _).alloc (by simp; omega) _).alloc (by simp; omega) _
  have hA0 : W0.cell? ⟨b, o, none⟩ = some (.slice (some ⟨g, 0, none⟩) ps.length cap) := (hB0.cell (p := ⟨b, o, none⟩) hlb).trans hA.pv
  rw [hW0]
  clear hW0
  refine wpIn_rangeFunc_ownF rfl (by omega) (gf := 144) (lb := #[.pointer (some ⟨w.heap.size + 1 + 1 + 1, 0, none⟩), .pointer (some ⟨w.heap.size + 1 + 1, 0, none⟩)]) rfl trivial (enters_of Tryz.func144 (by kernel_rfl) rfl)
    (ahead_none 2 (w.heap.size + 1 + 1 + 1) (w.heap.size + 1 + 1) W0.heap.size b o g cap ps k hk hno W0 (by omega) (by omega) (by omega) (Nat.le_refl _) c3 c2 hA0) belowK_t (belowK_b (Nat.le_refl _)) (Below.refl _ _) (fun _ => rfl)
    (fun pre W => (W.cell? ⟨w.heap.size + 1, 0, none⟩ = some (.bool false) ∧ W.frozen? ⟨w.heap.size + 1, 0, none⟩ = false) ∧ Below w.heap.size w W)
    (fun c pre W => False ∧ Below w.heap.size w W)
    (OwnFrom.and (Own.from (fun s A B row hs hg hr => ⟨cell_kept hs.1 hg hr, (frozen_kept hs.1 hg hr).trans hs.2⟩) _) (ownFrom_below (Nat.le_refl _) (by omega)))
    (fun c => OwnFrom.and (Own.from (fun s A B row hs hg hr => hs) _) (ownFrom_below (Nat.le_refl _) (by omega)))
    ⟨⟨c1.1, c1.2⟩, hB0⟩
    (fun x => { tmps := #[.pointer (some ⟨b, o, none⟩), .int .i64 a, .int .i64 k, undef, .pointer (some ⟨w.heap.size, 0, none⟩), undef, .pointer (some ⟨w.heap.size + 1, 0, none⟩), .int .i64 x, .pointer (some ⟨b, o, none⟩), .int .i64 k, .func (.func 144) #[] #[.pointer (some ⟨w.heap.size + 1 + 1 + 1, 0, none⟩), .pointer (some ⟨w.heap.size + 1 + 1, 0, none⟩)], .int .i64 x, undef, undef, undef], defers := [] }) ?assign ?body ?done ?stop
  case assign =>
    intro l x W K hK
    gi_wp2
    exact hK
  case body =>
    rintro l pre x W _ hpl
    omega
  case done =>
    rintro D ys W hD rfl ⟨⟨hcr, hfr⟩, hB⟩ hK
    gi_wp2
    have hK' := (KeepsOthers.setCell W ⟨w.heap.size + 1, 0, none⟩ (.bool false)).same D _ hK rfl
    refine ⟨by simp, .inl ⟨_, _, rfl, run_takeDeferred hK', ?_⟩⟩
    have hc5 := cell_kept (World.cell?_setCell_same' W ⟨w.heap.size + 1, 0, none⟩ (.bool false) (by rw [hcr]; rfl)) (grownBy_putObj' _ D (.deferred none)) (fun r e => by cases e; exact ⟨_, hK', rfl⟩)
    refine ⟨.bool false, ?_, rfl, (hB.setCell (p := ⟨w.heap.size + 1, 0, none⟩) (by simp) _).trans (belowK_b (w := w) (Nat.le_refl _) _ D _ _ (by omega) hK' rfl rfl)⟩
    simp [results, Tryz.f112, go_sem, hc5]
  case stop =>
    rintro D c pre W hD hpre ⟨hfl, hB⟩ hK
    exact hfl.elim

theorem isAhead_any (b o g cap : Nat) (ps : List Int) (hT : Tree ps) (a k : Int) (w : World) (hA : TreeAt w b o g cap ps) :
    Calls Tryz.prog 112 #[.pointer (some ⟨b, o, none⟩), .int .i64 a, .int .i64 k] w fun e w' => e = .returned (.bool (inB ps k && ahead ps a k)) ∧ Below w.heap.size w w' := by
  by_cases hin : 0 ≤ k ∧ k < ps.length
  · have q : inB ps k = true := by unfold inB; simpa using hin
    rw [q, Bool.true_and]
    exact isAhead_at b o g cap ps hT a k hin.1 (by omega) w hA
  · have q : inB ps k = false := by unfold inB; simp; omega
    rw [q, Bool.false_and]
    have hp := hT.1
    exact isAhead_out b o g cap ps a k (by omega) (by unfold hasB; simp; omega) w hA

set_option maxRecDepth 100000 in
set_option maxHeartbeats 1000000 in
theorem cloneTree_at (g o c : Nat) (xs : List Int) (w : World) (hx : ∀ j, j < xs.length → w.cell? ⟨g, o + j, none⟩ = some (I64 (xs[j]?.getD 0))) (h0 : 0 < xs.length) (hl : xs.length ≤ 40) :
    Calls Tryz.prog 69 #[.slice (some ⟨g, o, none⟩) xs.length c] w fun e w' => ∃ g1 cap, e = .returned (.slice (some ⟨g1, 0, none⟩) xs.length cap) ∧
      w'.ownsRow 0 3 1 (.slice (some ⟨g1, 0, none⟩) xs.length cap) xs.length (xs.map I64) ∧ w.heap.size ≤ g1 ∧ Below w.heap.size w w' := by
  obtain ⟨i0, hi, hz0, hz1, hz2⟩ := info_parts info_int
  have h63 : Hid (0 + xs.length ≤ maxLen) := by show _ ≤ _; unfold maxLen; omega
  have hgl : g < w.heap.size := World.block_lt_of_cell? w _ (hx 0 h0)
  have hnews : ∀ j u, (xs.map I64)[j]? = some u → (w.alloc (.cells #[] 3)).cell? ((⟨g, o, none⟩ : Addr).add j) = some u := fun j u hu => by
    rw [add_none]
    obtain ⟨x, hxj, rfl⟩ := by simpa using hu
    have hlt : j < xs.length := (List.getElem?_eq_some_iff.1 hxj).1
    refine (Chg.alloc (Chg.refl (fun _ => False) w) _).cell ?_ (fun hf => hf)
    rw [hx j hlt, hxj]; rfl
  have hown0 : (w.alloc (.cells #[] 3)).ownsRow 0 3 1 (.slice (some ⟨w.heap.size, 0, none⟩) 0 0) 0 [] := World.ownsRow_lit w #[] 0 (Nat.zero_le _) (Nat.zero_le _) (by simp)
  clear hx
  have q22 : ∀ (w : World) (a : Option Addr) (n c : Nat), (binOp .eql 22 (.slice a n c) (.slice none 0 0)).run Tryz.prog w = .ok (.bool a.isNone) w := fun w a n c => Lib.run_eql_slice_nil w _ _ a n c 0 0 Tryz.underlying22
  go_enter Tryz.func69, Tryz.ntmps69
  go_wp2_with (at_builtin; refine wpList_append_lies _ (by rfl) _ _ _ (by rfl) 0 3 i0 (I64 0) 1 8 Tryz.underlying22 hi hz0 hz1 hz2 rfl (by omega) (.slice (some ⟨w.heap.size, 0, none⟩) 0 0) 0 [] (by rfl) hown0 ⟨g, o, none⟩ xs.length c (xs.map I64) (by rfl) (by simp) hnews (by simp [Value.oneCell']) h0 h63.out (by omega) (Nat.zero_le _) (w.heap.size + 1) (by simp) ?_; intro g1 cap1 w7 hown7 hgrow7 hat7 hlt7)
  go_ret
  simp only [Nat.zero_add, List.nil_append] at hown7
  refine ⟨g1, cap1, by simp, hown7, ?_, ?_⟩
  · rcases hat7 with h | h
    · simp [Value.ownBlock] at h; omega
    · omega
  · exact ((Below.refl _ w).alloc (Nat.le_refl _) _).grown hgrow7 (by simp) (fun k e => by simp [Value.ownBlock] at e; omega)

/-- Of, of voters that lie anywhere. -/
theorem ofI_at (g c : Nat) (pl : Option Addr) (cl : Nat) (ws l : List Int) (w : World) (hx : ∀ j, j < ws.length → w.cell? ⟨g, j, none⟩ = some (I64 (ws[j]?.getD 0))) (hW : OkWs ws) (hr : IntsAt w pl l) (hl : ∀ v ∈ l, 0 ≤ v ∧ v < ws.length) (hl2 : l.length ≤ 300) :
    Calls Tryz.prog 143 #[.slice (some ⟨g, 0, none⟩) ws.length c, .slice pl l.length cl] w fun e w' => e = .returned (.int .i64 (wSum ws l)) ∧ w' = w := by
  have HX : Hid (∀ j, j < ws.length → w.cell? ⟨g, j, none⟩ = some (I64 (ws[j]?.getD 0))) := hx
  clear hx
  have HL : Hid (∀ v ∈ l, 0 ≤ v ∧ v < ws.length) := hl
  clear hl
  have hle := hW.le
  go_enter Tryz.func143, Tryz.ntmps143
  go_wp2
  go_loop [5, 10] (fun t i => ∃ (k : Nat) (n : Int), k ≤ l.length ∧ i = .int .i64 k ∧ t = .int .i64 n ∧ Hid (n = wSum ws (l.take k)) ∧ 0 ≤ n ∧ n ≤ 100 * k) (fun _ i => l.length - (intOf i).toNat)
  case atStart => exact ⟨0, 0, by omega, rfl, rfl, by simp [Hid, wSum, sumI_nil], by omega, by omega⟩
  case round =>
    obtain ⟨k, n, hk, rfl, rfl, hn, hn0, hn1⟩ := hrel
    by_cases hlt : k < l.length
    · have hlt' : (k : Int) < (l.length : Int) := by omega
      rcases hr with rfl | ⟨gl, ol, rfl, hcl⟩
      · simp at hlt
      obtain ⟨y, hy⟩ : ∃ y, l[k]? = some y := ⟨_, List.getElem?_eq_getElem hlt⟩
      have hc : w.cell? ⟨gl, ol + k, none⟩ = some (I64 y) := by have := hcl k hlt; rw [hy] at this; exact this
      obtain ⟨y0, y1⟩ := HL.out y (List.mem_of_getElem? hy)
      obtain ⟨x, hxk⟩ : ∃ x, wAt ws y = x := ⟨_, rfl⟩
      have hcx : w.cell? ⟨g, y.toNat, none⟩ = some (I64 x) := by rw [← hxk]; exact HX.out _ (by omega)
      have hb := hW.wAt (v := y) (by omega)
      rw [hxk] at hb
      have HN : Hid (n + x = wSum ws (l.take (k + 1))) := by show _ = _; rw [wSum_take _ _ _ _ hy, hn.out, hxk]
      clear hxk hcl hy
      go_wp2
      go_round
      case rel => exact ⟨k + 1, n + x, by omega, by go_num, by go_num, HN, by omega, by omega⟩
      case measure => simp [intOf]; omega
    · go_wp2
      go_ret
      have hn' := hn.out
      rw [List.take_of_length_le (by omega)] at hn'
      exact ⟨by rw [← hn']; rfl, rfl⟩

theorem wSum_le {ws l : List Int} (hW : OkWs ws) (hl : ∀ v ∈ l, 0 ≤ v ∧ v < ws.length) (hn : l.length ≤ 12) : 0 ≤ wSum ws l ∧ wSum ws l ≤ 1200 := by
  have h1 := sumI_bounds (l := l.map (wAt ws)) (m := 100) (fun z hz => by
    simp only [List.mem_map] at hz
    obtain ⟨v, hv, rfl⟩ := hz
    have h2 := hl v hv
    have := hW.wAt (v := v) (by omega)
    omega)
  unfold wSum
  simp only [List.length_map] at h1
  omega

set_option maxRecDepth 100000 in
set_option maxHeartbeats 2000000 in
theorem pEnough_at (g c : Nat) (pl : Option Addr) (cl : Nat) (ws l : List Int) (w : World) (hx : ∀ j, j < ws.length → w.cell? ⟨g, j, none⟩ = some (I64 (ws[j]?.getD 0))) (hW : OkWs ws) (hr : IntsAt w pl l) (hm : l.length ≤ maxLen) :
    Calls Tryz.prog 146 #[.slice (some ⟨g, 0, none⟩) ws.length c, .slice pl l.length cl] w fun e w' => e = .returned (.bool (riseB ws.length 0 l && enB ws l)) ∧ w' = w := by
  have HX : Hid (∀ j, j < ws.length → w.cell? ⟨g, j, none⟩ = some (I64 (ws[j]?.getD 0))) := hx
  clear hx
  have hle := hW.le
  have hml : l.length ≤ 9223372036854775807 := by unfold maxLen at hm; omega
  clear hm
  go_enter Tryz.func146, Tryz.ntmps146
  go_wp2
  go_loop [5, 10] (fun t i => ∃ k : Nat, k ≤ l.length ∧ i = .int .i64 k ∧ t = .int .i64 (lastO 0 (l.take k)) ∧ 0 ≤ lastO 0 (l.take k) ∧ lastO 0 (l.take k) ≤ 13 ∧ Hid (riseB ws.length 0 (l.take k) = true)) (fun _ i => l.length - (intOf i).toNat)
  case atStart => exact ⟨0, by omega, rfl, rfl, by simp [lastO], by simp [lastO], rfl⟩
  case round =>
    obtain ⟨k, hk, rfl, rfl, h0, h13, HR⟩ := hrel
    by_cases hlt : k < l.length
    · have hlt' : (k : Int) < (l.length : Int) := by omega
      rcases hr with rfl | ⟨gl, ol, rfl, hcl⟩
      · simp at hlt
      obtain ⟨y, hy⟩ : ∃ y, l[k]? = some y := ⟨_, List.getElem?_eq_getElem hlt⟩
      have hc : w.cell? ⟨gl, ol + k, none⟩ = some (I64 y) := by have := hcl k hlt; rw [hy] at this; exact this
      obtain ⟨t1, t2⟩ := rise_take (n := ws.length) hy 0
      rw [HR.out, Bool.true_and] at t1
      have HF : Hid (riseB ws.length 0 (l.take (k + 1)) = false → (riseB ws.length 0 l && enB ws l) = false) := fun hf => by rw [riseB_pre hf, Bool.false_and]
      obtain ⟨m, hmm⟩ : ∃ m, lastO 0 (l.take k) = m := ⟨_, rfl⟩
      rw [hmm] at t1 h0 h13 ⊢
      have HT1 : Hid _ := t1
      have HT2 : Hid _ := t2
      clear hcl hy t1 t2 hmm HR
      by_cases c1 : y < m
      · have HB : Hid ((riseB ws.length 0 l && enB ws l) = false) := HF.out (by rw [HT1.out]; simp; omega)
        clear HT1 HF HT2
        go_wp2
        go_ret
        exact ⟨by rw [HB.out]; rfl, rfl⟩
      · cases hh : hasB ws.length y
        · have HB : Hid ((riseB ws.length 0 l && enB ws l) = false) := HF.out (by rw [HT1.out]; simp [hasB] at hh; simp; omega)
          clear HT1 HF HT2
          go_wp2_with (go_at_call 111; refine (whas_at _ _ _ _ _).mono ?_; rintro e w' ⟨rfl, rfl⟩; rw [hh])
          go_ret
          exact ⟨by rw [HB.out]; rfl, rfl⟩
        · have hyb : 0 ≤ y ∧ y < ws.length := by simpa [hasB] using hh
          have HB : Hid (riseB ws.length 0 (l.take (k + 1)) = true) := by show _ = _; rw [HT1.out]; simp; omega
          clear HT1 HF
          go_wp2_with (go_at_call 111; refine (whas_at _ _ _ _ _).mono ?_; rintro e w' ⟨rfl, rfl⟩; rw [hh])
          go_round
          case rel => exact ⟨k + 1, by omega, by go_num, by rw [HT2.out], by rw [HT2.out]; omega, by rw [HT2.out]; omega, HB⟩
          case measure => simp [intOf]; omega
    · have hri : riseB ws.length 0 l = true := by have := HR.out; rw [List.take_of_length_le (by omega)] at this; exact this
      have hal := (riseB_iff.1 hri).1
      have hln := rise_len hri
      have hof := ofI_at g c pl cl ws l w HX.out hW hr hal (by omega)
      have hsb := wSum_le hW hal (by omega)
      have hen := enoughW_at g c ws (wSum ws l) w HX.out hW hsb.1 (by omega)
      have HRI : Hid _ := hri
      obtain ⟨T, hTT⟩ : ∃ T, wSum ws l = T := ⟨_, rfl⟩
      rw [hTT] at hof hen
      have HT : Hid (wSum ws l = T) := hTT
      generalize lastO 0 (l.take k) = m
      clear hri hal hTT HR
      go_wp2_with fail
      refine hof.mono ?_
      rintro e w1 ⟨rfl, rfl⟩
      clear hof
      go_wp2_with fail
      refine hen.mono ?_
      rintro e w1 ⟨rfl, rfl⟩
      go_wp2
      go_ret
      exact ⟨by rw [HRI.out, Bool.true_and]; unfold enB; rw [HT.out]; rfl, rfl⟩
end Go.Proofs.YtgebcnnenhgkcaaGreat
/- Plain: what the list of the guilty says of each. -/
namespace Go.Proofs.YtgebcnnenhgkcaaGreat

/-- What stands behind a guilt. -/
structure GuOf (n : Nat) (ps : List Int) (vs : List Vt) (g : Gu) : Prop where
  v0 : 0 ≤ g.v
  v1 : g.v < n
  a : g.a ∈ vs
  b : g.b ∈ vs
  av : g.a.v = g.v
  bv : g.b.v = g.v
  k : kindI ps g.a g.b ≠ 0

end Go.Proofs.YtgebcnnenhgkcaaGreat
