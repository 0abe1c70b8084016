/- Links as they lie in memory; link: a link by all who have voted for it. -/
import Derived.BigRegion
import Derived.Deep.RegionHeld3
import Derived.Test.YtgebcnnenhgkcaaGreatB08
import Derived.Test.YtgebcnnenhgkcaaGreatB07
import Derived.Test.YtgebcnnenhgkcaaGreatB03
import Derived.Test.YtgebcnnenhgkcaaGreatB04
namespace Go.Proofs.YtgebcnnenhgkcaaGreat
open Go.RowKit Go.Shelf

/-- A link, with the slice of its voters. -/
abbrev LkV := Lk × Value
def lvCells (x : LkV) : List Value := [I64 x.1.s, I64 x.1.t, x.2]
def lvRow (X : List LkV) : List Value := X.flatMap lvCells
theorem lvRow_append (a b : List LkV) : lvRow (a ++ b) = lvRow a ++ lvRow b := by simp [lvRow]
theorem lvRow_length (X : List LkV) : (lvRow X).length = X.length * 3 := by
  induction X with
  | nil => rfl
  | cons g r ih => simp [lvRow, lvCells] at *; omega
theorem lvRow_at {X : List LkV} {j : Nat} {x : LkV} (h : X[j]? = some x) {i : Nat} {u : Value} (hu : (lvCells x)[i]? = some u) : (lvRow X)[j * 3 + i]? = some u := by
  induction X generalizing j with
  | nil => simp at h
  | cons a r ih =>
    have e : lvRow (a :: r) = lvCells a ++ lvRow r := by simp [lvRow]
    have hi : i < 3 := by have := (List.getElem?_eq_some_iff.1 hu).1; simpa [lvCells] using this
    rw [e]
    cases j with
    | zero =>
      simp at h; subst h
      rw [List.getElem?_append_left (by simp [lvCells]; omega)]; simpa using hu
    | succ j =>
      rw [List.getElem?_append_right (by simp [lvCells]; omega)]
      have := ih (j := j) (by simpa using h)
      simp only [lvCells, List.length_cons, List.length_nil]
      rw [show (j + 1) * 3 + i - (0 + 1 + 1 + 1) = j * 3 + i by omega]
      exact this
theorem row_slice {w : World} {base : Nat} {e : TypeId} {size : Nat} {v : Value} {n : Nat} {xs : List Value} (h : w.ownsRow base e size v n xs) : ∃ p c, v = .slice p n c := by
  rcases h.2 with ⟨h', h''⟩ | ⟨g, cap, cur, h', _⟩
  · exact ⟨none, 0, by rw [h', h'']⟩
  · exact ⟨_, _, h'⟩
theorem info_link : (Tryz.prog.info? 121).map (fun i => (i.zero, i.size, i.bytes)) = some (some (.agg #[I64 0, I64 0, .slice none 0 0]), 3, 40) := by kernel_rfl

/-- Links in new memory: the row of links, and a row for the voters of each, no two the same. -/
structure LinksAt (w : World) (base : Nat) (v : Value) (X : List LkV) : Prop where
  row : w.ownsRow base 121 3 v X.length (lvRow X)
  each : ∀ x ∈ X, w.ownsRow base 3 1 x.2 x.1.vs.length (x.1.vs.map I64)
  apart : X.Pairwise (fun x y => ∀ k, x.2.ownBlock = some k → y.2.ownBlock ≠ some k)
theorem LinksAt.nil (w : World) (base : Nat) : LinksAt w base (.slice none 0 0) [] := ⟨World.ownsRow_nil _ _ _ _, fun x h => (by cases h), List.Pairwise.nil⟩
theorem LinksAt.kept {w w' : World} {base : Nat} {v : Value} {X : List LkV} {S : Nat → Prop} (h : LinksAt w base v X) (hc : Chg S w w') (hv : ∀ k, v.ownBlock = some k → ¬ S k) (hx : ∀ x ∈ X, ∀ k, x.2.ownBlock = some k → ¬ S k) : LinksAt w' base v X :=
  ⟨hc.row h.row hv, fun x hxm => hc.row (h.each x hxm) (hx x hxm), h.apart⟩
theorem LinksAt.below {w w' : World} {base B : Nat} {v : Value} {X : List LkV} (h : LinksAt w base v X) (hB : Below B w w') (hb : w.heap.size ≤ B) : LinksAt w' base v X :=
  ⟨row_below h.row hB hb, fun x hx => row_below (h.each x hx) hB hb, h.apart⟩
theorem LinksAt.lower {w : World} {base base' : Nat} {v : Value} {X : List LkV} (h : LinksAt w base v X) (hb : base' ≤ base) : LinksAt w base' v X :=
  ⟨row_lower h.row hb, fun x hx => row_lower (h.each x hx) hb, h.apart⟩

/-- Three stores into a block. -/
def put3 (W : World) (n : Nat) (a b c : Value) : World := ((W.setCell ⟨n, 0, none⟩ a).setCell ⟨n, 1, none⟩ b).setCell ⟨n, 2, none⟩ c
theorem put3_heap {W : World} {n : Nat} {c0 c1 c2 : Value} {t : TypeId} (h : W.heap[n]? = some (.cells #[c0, c1, c2] t (0, 0))) (a b c : Value) : (put3 W n a b c).heap[n]? = some (.cells #[a, b, c] t (0, 0)) := by
  unfold put3
  have h0 : (W.setCell ⟨n, 0, none⟩ a).heap[n]? = some (.cells #[a, c1, c2] t (0, 0)) := heap_setCell_same _ n 0 _ _ _ h
  have h1 : ((W.setCell ⟨n, 0, none⟩ a).setCell ⟨n, 1, none⟩ b).heap[n]? = some (.cells #[a, b, c2] t (0, 0)) := heap_setCell_same _ n 1 _ _ _ h0
  exact heap_setCell_same _ n 2 _ _ _ h1
theorem put3_below {w W : World} {B n : Nat} (h : Below B w W) (hn : B ≤ n) (a b c : Value) : Below B w (put3 W n a b c) :=
  ((h.setCell (p := ⟨n, 0, none⟩) hn _).setCell (p := ⟨n, 1, none⟩) hn _).setCell (p := ⟨n, 2, none⟩) hn _
theorem put3_row {w : World} {base : Nat} {e : TypeId} {size : Nat} {v : Value} {n : Nat} {xs : List Value} (h : w.ownsRow base e size v n xs) {g : Nat} (a b c : Value) (hv : v.ownBlock ≠ some g) : (put3 w g a b c).ownsRow base e size v n xs := by
  have hc : Chg (fun k => k = g) w (put3 w g a b c) := (((Chg.refl (fun k => k = g) w).setCell (p := ⟨g, 0, none⟩) (.inl rfl) a).setCell (p := ⟨g, 1, none⟩) (.inl rfl) b).setCell (p := ⟨g, 2, none⟩) (.inl rfl) c
  exact hc.row h (fun k hk e => hv (by rw [hk, e]))

set_option maxHeartbeats 1000000 in
theorem link_at (b : Nat) (S : Nat → Prop) (m : Int) (ws ps : List Int) (vs : List Vt) (wv pv vv : Value) (s t : Int) (w : World) (h : CourtAt w b S m ws ps vs wv pv vv) (hw : ws.length ≤ 12) (hl : vs.length ≤ 300) (hO : OkV ws.length ps vs) :
    Calls Tryz.prog 98 #[.pointer (some ⟨b, 0, none⟩), .int .i64 s, .int .i64 t] w fun e w' => (∃ u, e = .returned (.agg #[I64 s, I64 t, u]) ∧ w'.ownsRow w.heap.size 3 1 u (votersL ws.length vs s t).length ((votersL ws.length vs s t).map I64)) ∧ Below w.heap.size w w' := by
  have hBa : Below w.heap.size w (w.alloc (.cells #[I64 0, I64 0, .slice none 0 0] 121)) := (Below.refl _ w).alloc (Nat.le_refl _) _
  have ha := h.kept (Chg.of_below (fun _ => False) hBa) (fun _ _ hf => hf)
  go_enter Tryz.func98, Tryz.ntmps98
  go_wp2_with fail
  obtain ⟨wa, hwa⟩ : ∃ wa, w.alloc (.cells #[I64 0, I64 0, .slice none 0 0] 121) = wa := ⟨_, rfl⟩
  have hra : wa.heap[w.heap.size]? = some (.cells #[I64 0, I64 0, .slice none 0 0] 121 (0, 0)) := by rw [← hwa]; exact heap_alloc_new w _
  have hza : wa.heap.size = w.heap.size + 1 := by rw [← hwa]; simp
  rw [hwa] at ha hBa ⊢
  clear hwa
  refine (votersFor_at b S m ws ps vs _ _ _ s t _ ha hw hl hO).mono ?_
  rintro e w1 ⟨⟨u, rfl, hrow⟩, hB1⟩
  have hr1 : w1.heap[w.heap.size]? = some (.cells #[I64 0, I64 0, .slice none 0 0] 121 (0, 0)) := (hB1.block _ (by omega)).trans hra
  have z0 : w1.cell? ⟨w.heap.size, 0, none⟩ = some (I64 0) := by rw [cell_of_heap hr1]; rfl
  have z1 : w1.cell? ⟨w.heap.size, 1, none⟩ = some (I64 0) := by rw [cell_of_heap hr1]; rfl
  have z2 : w1.cell? ⟨w.heap.size, 2, none⟩ = some (.slice none 0 0) := by rw [cell_of_heap hr1]; rfl
  have fz : ∀ o, w1.frozen? ⟨w.heap.size, o, none⟩ = false := fun o => frozen_of_heap hr1 o
  have HR : Hid _ := hr1
  obtain ⟨up, uc, hu⟩ := row_slice hrow
  subst hu
  have hub : (Value.slice up (votersL ws.length vs s t).length uc).ownBlock ≠ some w.heap.size := fun e => by have := (hrow.lt _ e).1; omega
  clear hr1
  go_wp2
  have h3 := put3_heap HR.out (I64 s) (I64 t) (.slice up (votersL ws.length vs s t).length uc)
  have y0 : (put3 w1 w.heap.size (I64 s) (I64 t) (.slice up (votersL ws.length vs s t).length uc)).cell? ⟨w.heap.size, 0, none⟩ = some (I64 s) := by rw [cell_of_heap h3]; rfl
  have y1 : (put3 w1 w.heap.size (I64 s) (I64 t) (.slice up (votersL ws.length vs s t).length uc)).cell? ⟨w.heap.size, 1, none⟩ = some (I64 t) := by rw [cell_of_heap h3]; rfl
  have y2 : (put3 w1 w.heap.size (I64 s) (I64 t) (.slice up (votersL ws.length vs s t).length uc)).cell? ⟨w.heap.size, 2, none⟩ = some (.slice up (votersL ws.length vs s t).length uc) := by rw [cell_of_heap h3]; rfl
  unfold put3 at y0 y1 y2
  refine ⟨rfl, .agg #[I64 s, I64 t, .slice up (votersL ws.length vs s t).length uc], ?_, ⟨_, rfl, ?_⟩, put3_below (hBa.trans (hB1.mono (by omega))) (Nat.le_refl _) _ _ _⟩
  · simp only [results, Tryz.f98]
    simp [go_sem, y0, y1, y2]
  · exact row_lower (put3_row hrow _ _ _ hub) (by omega)
end Go.Proofs.YtgebcnnenhgkcaaGreat
/- slices.Reverse at links: they come out the other way round, in the same row. -/
namespace Go.Proofs.YtgebcnnenhgkcaaGreat
open Go.RowKit Go.Shelf

/-- Links as they lie in the block g, by a function of their place. -/
structure TriAt (w : World) (g n cap : Nat) (f : Nat → LkV) : Prop where
  c : ∀ j, j < n → w.cell? ⟨g, j * 3, none⟩ = some (I64 (f j).1.s) ∧ w.cell? ⟨g, j * 3 + 1, none⟩ = some (I64 (f j).1.t) ∧ w.cell? ⟨g, j * 3 + 2, none⟩ = some (f j).2
  hp : ∃ cur, w.heap[g]? = some (.cells cur 121 (0, 0)) ∧ cur.size = cap * 3
theorem TriAt.z {w : World} {g n cap : Nat} {f : Nat → LkV} (h : TriAt w g n cap f) (o : Nat) : w.frozen? ⟨g, o, none⟩ = false := by
  obtain ⟨cur, h1, _⟩ := h.hp
  exact frozen_of_heap h1 o
theorem TriAt.congr {w : World} {g n cap : Nat} {f f' : Nat → LkV} (h : TriAt w g n cap f) (he : ∀ j, j < n → f' j = f j) : TriAt w g n cap f' := ⟨fun j hj => by rw [he j hj]; exact h.c j hj, h.hp⟩
theorem TriAt.drew {w : World} {g n cap : Nat} {f : Nat → LkV} (h : TriAt w g n cap f) : TriAt w.drew g n cap f := ⟨h.c, h.hp⟩
/-- Three stores at a place of a block. -/
def putT (W : World) (g o : Nat) (a b c : Value) : World := ((W.setCell ⟨g, o, none⟩ a).setCell ⟨g, o + 1, none⟩ b).setCell ⟨g, o + 2, none⟩ c
theorem putT_chg (W : World) (g o : Nat) (a b c : Value) : Chg (fun k => k = g) W (putT W g o a b c) :=
  (((Chg.refl (fun k => k = g) W).setCell (p := ⟨g, o, none⟩) (.inl rfl) a).setCell (p := ⟨g, o + 1, none⟩) (.inl rfl) b).setCell (p := ⟨g, o + 2, none⟩) (.inl rfl) c
theorem putT_other {W : World} {g o : Nat} {a b c : Value} {q : Nat} (h0 : q ≠ o) (h1 : q ≠ o + 1) (h2 : q ≠ o + 2) : (putT W g o a b c).cell? ⟨g, q, none⟩ = W.cell? ⟨g, q, none⟩ := by
  unfold putT
  rw [World.cell?_setCell_other _ _ _ _ (by intro e; injection e with _ e; exact h2 e.symm), World.cell?_setCell_other _ _ _ _ (by intro e; injection e with _ e; exact h1 e.symm), World.cell?_setCell_other _ _ _ _ (by intro e; injection e with _ e; exact h0 e.symm)]
theorem TriAt.put {w : World} {g n cap : Nat} {f : Nat → LkV} (h : TriAt w g n cap f) {k : Nat} (hk : k < n) (x : LkV) : TriAt (putT w g (k * 3) (I64 x.1.s) (I64 x.1.t) x.2) g n cap (fun j => if j = k then x else f j) := by
  obtain ⟨k0, k1, k2⟩ := h.c k hk
  refine ⟨fun j hj => ?_, ?_⟩
  · by_cases e : j = k
    · subst e
      simp only [if_true]
      unfold putT
      refine ⟨?_, ?_, ?_⟩
      · rw [World.cell?_setCell_other _ _ _ _ (by simp), World.cell?_setCell_other _ _ _ _ (by simp)]
        exact World.cell?_setCell_same' _ _ _ (by rw [k0]; rfl)
      · rw [World.cell?_setCell_other _ _ _ _ (by simp)]
        exact World.cell?_setCell_same' _ _ _ (by rw [World.cell?_setCell_other _ _ _ _ (by simp), k1]; rfl)
      · exact World.cell?_setCell_same' _ _ _ (by rw [World.cell?_setCell_other _ _ _ _ (by simp), World.cell?_setCell_other _ _ _ _ (by simp), k2]; rfl)
    · simp only [if_neg e]
      rw [putT_other (by omega) (by omega) (by omega), putT_other (by omega) (by omega) (by omega), putT_other (by omega) (by omega) (by omega)]
      exact h.c j hj
  · obtain ⟨cur, h1, h2⟩ := h.hp
    unfold putT
    have a1 := heap_setCell_same w g (k * 3) _ _ (I64 x.1.s) h1
    have a2 := heap_setCell_same _ g (k * 3 + 1) _ _ (I64 x.1.t) a1
    have a3 := heap_setCell_same _ g (k * 3 + 2) _ _ x.2 a2
    exact ⟨_, a3, by simp [h2]⟩

theorem tri_of {w : World} {base g cap : Nat} {X : List LkV} (h : w.ownsRow base 121 3 (.slice (some ⟨g, 0, none⟩) X.length cap) X.length (lvRow X)) : TriAt w g X.length cap (fun j => X.getD j (⟨0, 0, []⟩, .slice none 0 0)) ∧ base ≤ g ∧ X.length ≤ cap ∧ cap ≤ maxLen := by
  have h' := h
  rcases h.2 with ⟨h1, _⟩ | ⟨g', cap', cur, h1, hb, hg, hle, hm, hs, ht⟩
  · simp at h1
  · simp only [Value.slice.injEq, Option.some.injEq, Addr.mk.injEq, true_and, and_true] at h1
    obtain ⟨rfl, rfl⟩ := h1
    refine ⟨⟨fun j hj => ?_, ⟨cur, hg, hs⟩⟩, hb, hle, hm⟩
    obtain ⟨x, hx⟩ : ∃ x, X[j]? = some x := ⟨_, List.getElem?_eq_getElem hj⟩
    have e : X.getD j (⟨0, 0, []⟩, .slice none 0 0) = x := by simp [hx]
    rw [e]
    have c0 := lvRow_at hx (i := 0) (u := I64 x.1.s) rfl
    have c1 := lvRow_at hx (i := 1) (u := I64 x.1.t) rfl
    have c2 := lvRow_at hx (i := 2) (u := x.2) rfl
    refine ⟨?_, ?_, ?_⟩
    · rw [(row_low h').cellAt _ (by omega)]; exact c0
    · rw [(row_low h').cellAt _ (by omega)]; exact c1
    · rw [(row_low h').cellAt _ (by omega)]; exact c2
theorem row_tri {w : World} {base g cap : Nat} {X : List LkV} (h : TriAt w g X.length cap (fun j => X.getD j (⟨0, 0, []⟩, .slice none 0 0))) (hb : base ≤ g) (hle : X.length ≤ cap) (hm : cap ≤ maxLen) : w.ownsRow base 121 3 (.slice (some ⟨g, 0, none⟩) X.length cap) X.length (lvRow X) := by
  obtain ⟨cur, h1, h2⟩ := h.hp
  refine ⟨lvRow_length X, .inr ⟨g, cap, cur, rfl, hb, h1, hle, hm, h2, ?_⟩⟩
  apply List.ext_getElem?
  intro i
  by_cases hi : i < X.length * 3
  · rw [List.getElem?_take_of_lt hi]
    have hj : i / 3 < X.length := by omega
    obtain ⟨x, hx⟩ : ∃ x, X[i / 3]? = some x := ⟨_, List.getElem?_eq_getElem hj⟩
    have hc := h.c (i / 3) hj
    have e : X.getD (i / 3) (⟨0, 0, []⟩, .slice none 0 0) = x := by simp [hx]
    rw [e, cell_of_heap h1, cell_of_heap h1, cell_of_heap h1] at hc
    rcases (by omega : i = i / 3 * 3 + 0 ∨ i = i / 3 * 3 + 1 ∨ i = i / 3 * 3 + 2) with e3 | e3 | e3
    · rw [e3, lvRow_at hx (i := 0) (u := I64 x.1.s) rfl]; simpa using hc.1
    · rw [e3, lvRow_at hx (i := 1) (u := I64 x.1.t) rfl]; simpa using hc.2.1
    · rw [e3, lvRow_at hx (i := 2) (u := x.2) rfl]; simpa using hc.2.2
  · rw [List.getElem?_eq_none (by simp; omega), List.getElem?_eq_none (by rw [lvRow_length]; omega)]

/-- While it is turned round: the first k and the last k are. -/
def rvF (n k : Nat) (F : Nat → LkV) (x : Nat) : LkV := if x < k ∨ n ≤ x + k then F (n - 1 - x) else F x

set_option maxRecDepth 100000 in
set_option maxHeartbeats 4000000 in
theorem reverse_at (base g cap : Nat) (X : List LkV) (w : World) (h : w.ownsRow base 121 3 (.slice (some ⟨g, 0, none⟩) X.length cap) X.length (lvRow X)) (hs : ∀ x ∈ X, ∃ p l c, x.2 = .slice p l c) :
    Calls Tryz.prog 122 #[.slice (some ⟨g, 0, none⟩) X.length cap] w fun e w' => e = .returned (.tuple #[]) ∧ w'.ownsRow base 121 3 (.slice (some ⟨g, 0, none⟩) X.length cap) X.length (lvRow X.reverse) ∧ Chg (fun k => k = g) w w' := by
  obtain ⟨hT, hb, hle, hm⟩ := tri_of h
  have hl : X.length ≤ 9223372036854775807 := by unfold maxLen at hm; omega
  obtain ⟨F, hF⟩ : ∃ F : Nat → LkV, (fun j => X.getD j (⟨0, 0, []⟩, .slice none 0 0)) = F := ⟨_, rfl⟩
  have HS : Hid (∀ j, j < X.length → ∃ s t vs p l c, F j = (⟨s, t, vs⟩, .slice p l c)) := fun j hj => by
    obtain ⟨x, hx⟩ : ∃ x, X[j]? = some x := ⟨_, List.getElem?_eq_getElem hj⟩
    obtain ⟨p, l, c, e⟩ := hs x (List.mem_of_getElem? hx)
    refine ⟨x.1.s, x.1.t, x.1.vs, p, l, c, ?_⟩
    rw [← hF]
    simp only [List.getD, hx, Option.getD_some]
    rw [← e]
  have HE : Hid (∀ W, TriAt W g X.length cap (fun j => F (X.length - 1 - j)) → W.ownsRow base 121 3 (.slice (some ⟨g, 0, none⟩) X.length cap) X.length (lvRow X.reverse)) := fun W hW => by
    have h1 : TriAt W g X.reverse.length cap (fun j => X.reverse.getD j (⟨0, 0, []⟩, .slice none 0 0)) := by
      rw [List.length_reverse]
      refine hW.congr (fun j hj => ?_)
      rw [← hF]
      simp only [List.getD]
      rw [List.getElem?_reverse hj]
    have h2 := row_tri h1 hb (by simpa using hle) hm
    rw [List.length_reverse] at h2
    exact h2
  rw [hF] at hT
  clear hF h hs
  obtain ⟨n, hn⟩ : ∃ n, X.length = n := ⟨_, rfl⟩
  rw [hn] at hT HS hl ⊢
  have HN : Hid (X.length = n) := hn
  have hT0 : TriAt w g n cap (rvF n 0 F) := hT.congr (fun j hj => by unfold rvF; rw [if_neg (by omega)])
  clear hn hT
  go_enter Tryz.func122, Tryz.ntmps122
  go_wp2_with fail
  go_loopw [2, 3] (fun ii jj wr => ∃ k : Nat, 2 * k ≤ n + 1 ∧ ii = .int .i64 k ∧ jj = .int .i64 ((n : Int) - 1 - k) ∧ TriAt wr g n cap (rvF n k F) ∧ Chg (fun k => k = g) w wr) (fun ii _ _ => n - (intOf ii).toNat)
  case atStart => exact ⟨0, by omega, rfl, by simp, hT0, Chg.refl _ _⟩
  case round =>
    clear hT0
    obtain ⟨k, hk, rfl, rfl, hT, hc⟩ := hrel
    by_cases hlt : 2 * k + 1 < n
    · have hj : (n : Int) - 1 - (k : Int) = ((n - 1 - k : Nat) : Int) := by omega
      obtain ⟨j, hjj⟩ : ∃ j, n - 1 - k = j := ⟨_, rfl⟩
      rw [hjj] at hj
      have hkj : (k : Int) < (j : Int) := by omega
      have hkn : (k : Int) < (n : Int) := by omega
      have hjn : (j : Int) < (n : Int) := by omega
      have hkN : k < n := by omega
      have hjN : j < n := by omega
      have e1 : rvF n k F k = F k := by unfold rvF; rw [if_neg (by omega)]
      have e2 : rvF n k F j = F j := by unfold rvF; rw [if_neg (by omega)]
      obtain ⟨s1, t1, v1, p1, l1, c1, f1⟩ := HS.out k hkN
      obtain ⟨s2, t2, v2, p2, l2, c2, f2⟩ := HS.out j hjN
      have ck := hT.c k hkN
      have cj := hT.c j hjN
      rw [e1, f1] at ck
      rw [e2, f2] at cj
      obtain ⟨a0, a1, a2⟩ := ck
      obtain ⟨b0, b1, b2⟩ := cj
      have fz := hT.z
      have hA := (hT.put hkN (⟨s2, t2, v2⟩, .slice p2 l2 c2)).put hjN (⟨s1, t1, v1⟩, .slice p1 l1 c1)
      have hB := (hT.put hjN (⟨s1, t1, v1⟩, .slice p1 l1 c1)).put hkN (⟨s2, t2, v2⟩, .slice p2 l2 c2)
      have hA' := hA.congr (f' := rvF n (k + 1) F) (fun x hx => by
        by_cases x1 : x = j
        · rw [if_pos x1, ← f1]; unfold rvF; rw [if_pos (by omega)]; congr 1; omega
        · rw [if_neg x1]
          by_cases x2 : x = k
          · rw [if_pos x2, ← f2]; unfold rvF; rw [if_pos (by omega)]; congr 1; omega
          · rw [if_neg x2]; unfold rvF
            by_cases x3 : x < k ∨ n ≤ x + k
            · rw [if_pos x3, if_pos (by omega)]
            · rw [if_neg x3, if_neg (by omega)])
      have hB' := hB.congr (f' := rvF n (k + 1) F) (fun x hx => by
        by_cases x2 : x = k
        · rw [if_pos x2, ← f2]; unfold rvF; rw [if_pos (by omega)]; congr 1; omega
        · rw [if_neg x2]
          by_cases x1 : x = j
          · rw [if_pos x1, ← f1]; unfold rvF; rw [if_pos (by omega)]; congr 1; omega
          · rw [if_neg x1]; unfold rvF
            by_cases x3 : x < k ∨ n ≤ x + k
            · rw [if_pos x3, if_pos (by omega)]
            · rw [if_neg x3, if_neg (by omega)])
      have HA : Hid _ := hA'.drew
      have HB : Hid _ := hB'.drew
      have HCA : Hid (Chg (fun k => k = g) w (putT (putT wr g (k * 3) (I64 s2) (I64 t2) (.slice p2 l2 c2)) g (j * 3) (I64 s1) (I64 t1) (.slice p1 l1 c1)).drew) := ((hc.trans (putT_chg _ _ _ _ _ _)).trans (putT_chg _ _ _ _ _ _)).drew
      have HCB : Hid (Chg (fun k => k = g) w (putT (putT wr g (j * 3) (I64 s1) (I64 t1) (.slice p1 l1 c1)) g (k * 3) (I64 s2) (I64 t2) (.slice p2 l2 c2)).drew) := ((hc.trans (putT_chg _ _ _ _ _ _)).trans (putT_chg _ _ _ _ _ _)).drew
      clear hA hB hA' hB' hT hc e1 e2 f1 f2
      rw [hj]
      clear hj
      have d1 : k * 3 ≠ j * 3 := by omega
      have hjk : k < j := by omega
      have HJ : Hid (n - 1 - k = j) := hjj
      clear hjj
      go_wp2_with fail
      go_region
      all_goals
        go_wp2
        go_roundw
        case rel => exact ⟨k + 1, by omega, by go_num, by congr 1; have := HJ.out; omega, by first | exact HA.out | exact HB.out, by first | exact HCA.out | exact HCB.out⟩
        case measure => simp [intOf]; omega
    · have hge : ¬ (k : Int) < (n : Int) - 1 - (k : Int) := by omega
      have hT' : TriAt wr g n cap (fun j => F (n - 1 - j)) := hT.congr (fun x hx => by
        unfold rvF
        by_cases x3 : x < k ∨ n ≤ x + k
        · rw [if_pos x3]
        · rw [if_neg x3]; congr 1; omega)
      have hfin := HE.out wr (by rw [HN.out]; exact hT')
      rw [HN.out] at hfin
      clear hT' hT
      go_wp2
      refine ⟨rfl, .tuple #[], ?_, rfl, ?_, hc⟩
      · simp [results, Tryz.f122]
      · exact hfin
theorem reverse_nil (w : World) : Calls Tryz.prog 122 #[.slice none 0 0] w fun e w' => e = .returned (.tuple #[]) ∧ w' = w := by
  go_enter Tryz.func122, Tryz.ntmps122
  go_wp2_with fail
  go_rounds 1
  refine ⟨rfl, .tuple #[], ?_, rfl, rfl⟩
  simp [results, Tryz.f122]
end Go.Proofs.YtgebcnnenhgkcaaGreat
/- Height, spanOf, isAround, Kind: in which way nobody may give two votes. -/
namespace Go.Proofs.YtgebcnnenhgkcaaGreat
open Go.RowKit Go.Shelf
attribute [local go_sem] Oper.semAt_some

theorem ht_bounds {ps : List Int} (hT : Tree ps) {b : Int} (h0 : 0 ≤ b) (h1 : b.toNat < ps.length) : 0 ≤ ht ps b ∧ ht ps b ≤ b := by
  have : ∀ (n : Nat) (b : Int), 0 ≤ b → b.toNat < ps.length → b.toNat ≤ n → (up ps b).length ≤ b.toNat := by
    intro n
    induction n with
    | zero =>
      intro b h0 hl hn
      have : b = 0 := by omega
      subst this; simp [up_zero]
    | succ n ih =>
      intro b h0 hl hn
      by_cases hb : b = 0
      · subst hb; simp [up_zero]
      · have hp := hT.2.2.2 b.toNat (by omega) hl
        rw [up_step hT (by omega) hl, List.length_cons]
        have := ih _ hp.1 (by omega) (by omega)
        omega
  have := this b.toNat b h0 h1 (Nat.le_refl _)
  unfold ht
  omega

set_option maxRecDepth 100000 in
set_option maxHeartbeats 2000000 in
theorem height_at (b o g cap : Nat) (ps : List Int) (hT : Tree ps) (k : Int) (hk0 : 0 ≤ k) (hk1 : k.toNat < ps.length) (w : World) (hA : TreeAt w b o g cap ps) :
    Calls Tryz.prog 176 #[.pointer (some ⟨b, o, none⟩), .int .i64 k] w fun e w' => e = .returned (.int .i64 (ht ps k)) ∧ Below w.heap.size w w' := by
  have hfn : Fence.wide.fn 121 := trivial
  have hmix : Tryz.prog.follows .mixedOrders = true := by kernel_rfl
  have hlb := hA.lt_b
  have hlg := hA.lt_g hT.1
  refine (callsIn_wide (n := 3)).1 ?_
  refine callsIn_of_wp_marks Tryz.func176 rfl trivial ?_ rfl
  simp only [Tryz.ntmps176, List.size_toArray, List.length_cons, List.length_nil, Nat.reduceAdd, Nat.reduceSub, Array.replicate_succ, Array.replicate_zero, List.push_toArray, List.append_toArray, List.nil_append, List.cons_append]
  gi_wp2_with (gi_at_call 121; refine (callsIn_wide.2 (ahead_makes b o k _)).mono ?_; rintro e w' ⟨rfl, rfl⟩)
  try simp only [World.size_alloc]
  obtain ⟨W0, hW0⟩ : ∃ W0, ((w.alloc (.cells #[.int .i64 0] 3)).alloc (.cells #[.pointer (some ⟨b, o, none⟩)] 147)).alloc (.cells #[.int .i64 k] 3) = W0 := ⟨_, rfl⟩
  have hs0 : W0.heap.size = w.heap.size + 1 + 1 + 1 := by rw [← hW0]; simp [go_sem]
  have c1 : W0.cell? ⟨w.heap.size, 0, none⟩ = some (.int .i64 0) ∧ W0.frozen? ⟨w.heap.size, 0, none⟩ = false := by rw [← hW0]; simp [go_sem]
  have c2 : W0.cell? ⟨w.heap.size + 1, 0, none⟩ = some (.pointer (some ⟨b, o, none⟩)) := by rw [← hW0]; simp [go_sem]
  have c3 : W0.cell? ⟨w.heap.size + 1 + 1, 0, none⟩ = some (.int .i64 k) := by rw [← hW0]; simp [go_sem]
  have hB0 : Below w.heap.size w W0 := by rw [← hW0]; exact (((Below.refl _ w).alloc (Nat.le_refl _) _).alloc (by simp) _).alloc (by simp; omega) _
  rw [hW0]
  clear hW0
  have hlen : ps.length ≤ 40 := hT.2.1
  have hup : ((up ps k).length : Int) ≤ k := (ht_bounds hT hk0 hk1).2
  refine wpIn_rangeFunc_ownF rfl (by omega) (gf := 144) (lb := #[.pointer (some ⟨w.heap.size + 1 + 1, 0, none⟩), .pointer (some ⟨w.heap.size + 1, 0, none⟩)]) rfl trivial (enters_of Tryz.func144 (by kernel_rfl) rfl)
    (ahead_stopsC (fun k => k = w.heap.size ∨ W0.heap.size ≤ k) 2 (w.heap.size + 1 + 1) (w.heap.size + 1) b o g cap ps hT k hk0 hk1 W0 (by omega) (by omega) (by omega) c3 c2 (hA.below hB0 hlb hlg)) (fun h k => h.trans k) (chgK_b (fun k hk => .inr hk)) (Below.refl _ _) (fun _ => rfl)
    (fun pre W => (W.cell? ⟨w.heap.size, 0, none⟩ = some (.int .i64 (pre.length : Nat)) ∧ W.frozen? ⟨w.heap.size, 0, none⟩ = false) ∧ Below w.heap.size w W)
    (fun c pre W => False ∧ Below w.heap.size w W)
    (OwnFrom.and (Own.from (fun s A B row hs hg hr => ⟨cell_kept hs.1 hg hr, (frozen_kept hs.1 hg hr).trans hs.2⟩) _) (ownFrom_below (Nat.le_refl _) (by omega)))
    (fun c => OwnFrom.and (Own.from (fun s A B row hs hg hr => hs) _) (ownFrom_below (Nat.le_refl _) (by omega)))
    ⟨⟨c1.1, c1.2⟩, hB0⟩
    (fun x => { tmps := #[.pointer (some ⟨b, o, none⟩), .int .i64 k, undef, undef, .int .i64 0, .pointer (some ⟨w.heap.size, 0, none⟩), .pointer (some ⟨b, o, none⟩), .int .i64 k, .func (.func 144) #[] #[.pointer (some ⟨w.heap.size + 1 + 1, 0, none⟩), .pointer (some ⟨w.heap.size + 1, 0, none⟩)], .int .i64 x.1, undef, undef, undef], defers := [] }) ?assign ?body ?done ?stop
  case assign =>
    intro l x W K hK
    gi_wp2
    simpa using hK
  case body =>
    rintro l pre x W ⟨⟨hcr, hfr⟩, hB⟩ hpl
    have hwr : IntKind.i64.wrap ((pre.length : Int) + 1) = (pre.length : Int) + 1 := Go.IntWalk.i64_in _ (by omega)
    gi_wp2
    refine ⟨KeepsOthers.setCell _ _ _, (Chg.refl _ _).setCell (p := ⟨w.heap.size, 0, none⟩) (.inl (.inl rfl)) _, ⟨?_, ?_⟩, hB.setCell (p := ⟨w.heap.size, 0, none⟩) (Nat.le_refl _) _⟩
    · rw [World.cell?_setCell_same' _ _ _ (by rw [hcr]; rfl)]; simp
    · simpa using hfr
  case done =>
    rintro D ys W hD hys ⟨⟨hcr, hfr⟩, hB⟩ hK
    gi_wp2
    refine ⟨by simp, .inl ⟨_, _, rfl, run_takeDeferred hK, ?_⟩⟩
    refine ⟨_, results_tmp rfl _ _ _, ?_, hB.trans (belowK_b (w := w) (Nat.le_refl _) _ D _ _ (by omega) hK rfl rfl)⟩
    show Ending.returned (Value.int .i64 _) = _
    unfold ht
    rw [← hys]; simp
  case stop =>
    rintro D c pre W hD hpre ⟨hfl, hB⟩ hK
    exact hfl.elim

theorem around_at (s1 t1 s2 t2 : Int) (w : World) :
    Calls Tryz.prog 163 #[.agg #[I64 s1, I64 t1], .agg #[I64 s2, I64 t2]] w fun e w' => e = .returned (.bool (decide (s1 < s2) && decide (t1 > t2))) ∧ Below w.heap.size w w' := by
  have hB : Below w.heap.size w ((w.alloc (.cells #[I64 s1, I64 t1] 185)).alloc (.cells #[I64 s2, I64 t2] 185)) := ((Below.refl _ w).alloc (Nat.le_refl _) _).alloc (by simp) _
  by_cases h : s1 < s2
  · have q : decide (s1 < s2) = true := by simpa using h
    go_enter Tryz.func163, Tryz.ntmps163
    go_wp2
    go_ret
    exact ⟨by first | rfl | (rw [q]; rfl), hB⟩
  · have q : decide (s1 < s2) = false := by simpa using h
    go_enter Tryz.func163, Tryz.ntmps163
    go_wp2
    go_ret
    exact ⟨by first | rfl | (rw [q]; rfl), hB⟩

/-- The blocks of a vote are there. -/
structure OkB (ps : List Int) (x : Vt) : Prop where
  s0 : 0 ≤ x.s
  s1 : x.s.toNat < ps.length
  t0 : 0 ≤ x.t
  t1 : x.t.toNat < ps.length

set_option maxHeartbeats 1000000 in
theorem spanOf_at (b o g cap : Nat) (ps : List Int) (hT : Tree ps) (x : Vt) (hx : OkB ps x) (w : World) (hA : TreeAt w b o g cap ps) :
    Calls Tryz.prog 162 #[.pointer (some ⟨b, o, none⟩), x.val] w fun e w' => e = .returned (.agg #[I64 (ht ps x.s), I64 (ht ps x.t)]) ∧ Below w.heap.size w w' := by
  have hlb := hA.lt_b
  have hlg := hA.lt_g hT.1
  go_enter Tryz.func162, Tryz.ntmps162
  go_wp2_with fail
  obtain ⟨W0, hW0⟩ : ∃ W0, (w.alloc (.cells #[I64 x.v, I64 x.s, I64 x.t] 47)).alloc (.cells #[I64 0, I64 0] 185) = W0 := ⟨_, rfl⟩
  have hz0 : W0.heap.size = w.heap.size + 1 + 1 := by rw [← hW0]; simp
  have hB0 : Below w.heap.size w W0 := by rw [← hW0]; exact ((Below.refl _ w).alloc (Nat.le_refl _) _).alloc (by simp) _
  have d1 : W0.cell? ⟨w.heap.size, 1, none⟩ = some (I64 x.s) := by rw [← hW0]; simp [go_sem]
  have d2 : W0.cell? ⟨w.heap.size, 2, none⟩ = some (I64 x.t) := by rw [← hW0]; simp [go_sem]
  have d3 : W0.heap[w.heap.size + 1]? = some (.cells #[I64 0, I64 0] 185 (0, 0)) := by rw [← hW0]; have := heap_alloc_new (w.alloc (.cells #[I64 x.v, I64 x.s, I64 x.t] 47)) (.cells #[I64 0, I64 0] 185); simpa using this
  rw [hW0]
  clear hW0
  refine wp_region_held_drew (S := fun w' => w'.cell? ⟨w.heap.size, 1, none⟩ = some (I64 x.s) ∧ w'.cell? ⟨w.heap.size, 2, none⟩ = some (I64 x.t)) (by kernel_rfl) ⟨d1, d2⟩ (fun hHeld => ?_)
  refine takeH (i := 0) (v := ?vv1) rfl (by kernel_rfl) (by kernel_rfl) (by kernel_rfl) (fun _ _ _ h => h) (Or.inl ⟨by rfl, ?hy1⟩) (by assumption) ?rest1
  case hy1 => (intro w hSw; (try dsimp only at hSw); go_simp; try with_reducible rfl)
  try simp only [Act.put, List.setIfInBounds_toArray, List.set_cons_zero, List.set_cons_succ]
  refine takeH (i := 1) (v := ?vv2) rfl (by kernel_rfl) (by kernel_rfl) (by kernel_rfl) (fun _ _ _ h => h) (Or.inl ⟨by rfl, ?hy2⟩) (by assumption) ?rest2
  case hy2 => (intro w hSw; (try dsimp only at hSw); go_simp; try with_reducible rfl)
  try simp only [Act.put, List.setIfInBounds_toArray, List.set_cons_zero, List.set_cons_succ]
  refine takeH (i := 2) (v := ?vv3) rfl (by kernel_rfl) (by kernel_rfl) (by kernel_rfl) (fun _ _ _ h => h) (Or.inl ⟨by rfl, ?hy3⟩) (by assumption) ?rest3
  case hy3 => (intro w hSw; (try dsimp only at hSw); go_simp; try with_reducible rfl)
  try simp only [Act.put, List.setIfInBounds_toArray, List.set_cons_zero, List.set_cons_succ]
  refine takeH (i := 4) (v := ?vv4) rfl (by kernel_rfl) (by kernel_rfl) (by kernel_rfl) (fun _ _ _ h => h) (Or.inl ⟨by rfl, ?hy4⟩) (by assumption) ?rest4
  case hy4 => (intro w hSw; (try dsimp only at hSw); go_simp; try with_reducible rfl)
  try simp only [Act.put, List.setIfInBounds_toArray, List.set_cons_zero, List.set_cons_succ]
  refine takeH (i := 5) (v := ?vv5) rfl (by kernel_rfl) (by kernel_rfl) (by kernel_rfl) (fun _ _ _ h => h) (Or.inl ⟨by rfl, ?hy5⟩) (by assumption) ?rest5
  case hy5 => (intro w hSw; (try dsimp only at hSw); go_simp; try with_reducible rfl)
  try simp only [Act.put, List.setIfInBounds_toArray, List.set_cons_zero, List.set_cons_succ]
  refine takeH (i := 6) (v := ?vv6) rfl (by kernel_rfl) (by kernel_rfl) (by kernel_rfl) (fun _ _ _ h => h) (Or.inl ⟨by rfl, ?hy6⟩) (by assumption) ?rest6
  case hy6 => (intro w hSw; (try dsimp only at hSw); go_simp; try with_reducible rfl)
  try simp only [Act.put, List.setIfInBounds_toArray, List.set_cons_zero, List.set_cons_succ]
  refine doneH (i := 3) rfl (by kernel_rfl) (by rfl) (fun K hK => ?_)
  have HK : Hid _ := hK
  clear hK
  go_simp
  refine (height_at b o g cap ps hT x.s hx.s0 hx.s1 _ ((hA.below hB0 hlb hlg).below (Below.refl W0.heap.size W0).drew (by omega) (by omega))).mono ?_
  rintro e W1 ⟨rfl, hB1⟩
  have hB1 : Below W0.heap.size W0 W1 := (Below.refl W0.heap.size W0).drew.trans hB1
  have e1 : W1.cell? ⟨w.heap.size, 1, none⟩ = some (I64 x.s) := (hB1.cell (p := ⟨w.heap.size, 1, none⟩) (by dsimp only; omega)).trans d1
  have e2 : W1.cell? ⟨w.heap.size, 2, none⟩ = some (I64 x.t) := (hB1.cell (p := ⟨w.heap.size, 2, none⟩) (by dsimp only; omega)).trans d2
  clear hHeld
  refine HK.out _ _ ⟨e1, e2⟩ (fun hHeld => ?_)
  clear HK K
  try simp only [Act.put, List.setIfInBounds_toArray, List.set_cons_zero, List.set_cons_succ]
  refine doneH (i := 7) rfl (by kernel_rfl) (by rfl) (fun K hK => ?_)
  have HK : Hid _ := hK
  clear hK
  go_simp
  have hz1 := hB1.size
  refine (height_at b o g cap ps hT x.t hx.t0 hx.t1 _ ((hA.below hB0 hlb hlg).below hB1 (by omega) (by omega))).mono ?_
  rintro e W2 ⟨rfl, hB2⟩
  have hB2 : Below W0.heap.size W0 W2 := hB1.trans (hB2.mono hz1)
  have e1 : W2.cell? ⟨w.heap.size, 1, none⟩ = some (I64 x.s) := (hB2.cell (p := ⟨w.heap.size, 1, none⟩) (by dsimp only; omega)).trans d1
  have e2 : W2.cell? ⟨w.heap.size, 2, none⟩ = some (I64 x.t) := (hB2.cell (p := ⟨w.heap.size, 2, none⟩) (by dsimp only; omega)).trans d2
  have d3' : W2.heap[w.heap.size + 1]? = some (.cells #[I64 0, I64 0] 185 (0, 0)) := (hB2.block _ (by omega)).trans d3
  have f0 : W2.cell? ⟨w.heap.size + 1, 0, none⟩ = some (I64 0) := by rw [cell_of_heap d3']; rfl
  have f1 : W2.cell? ⟨w.heap.size + 1, 1, none⟩ = some (I64 0) := by rw [cell_of_heap d3']; rfl
  have g0 : W2.frozen? ⟨w.heap.size + 1, 0, none⟩ = false := frozen_of_heap d3' 0
  have g1 : W2.frozen? ⟨w.heap.size + 1, 1, none⟩ = false := frozen_of_heap d3' 1
  clear hHeld
  refine HK.out _ _ ⟨e1, e2⟩ (fun hHeld => ?_)
  clear HK K
  try simp only [Act.put, List.setIfInBounds_toArray, List.set_cons_zero, List.set_cons_succ]
  refine takeH (i := 8) (v := ?vv7) rfl (by kernel_rfl) (by kernel_rfl) (by kernel_rfl) (fun _ _ _ h => h) (Or.inl ⟨by rfl, ?hy7⟩) (by assumption) ?rest7
  case hy7 => (intro w hSw; (try dsimp only at hSw); go_simp; try with_reducible rfl)
  try simp only [Act.put, List.setIfInBounds_toArray, List.set_cons_zero, List.set_cons_succ]
  refine doneH (i := 9) rfl (by kernel_rfl) (by rfl) (fun K hK => ?_)
  have HK : Hid _ := hK
  clear hK
  go_simp
  refine HK.out _ _ ?hs (fun hHeld2 => ?rs)
  case hs => exact ⟨by rw [World.cell?_setCell_other _ _ _ _ (by simp), World.cell?_setCell_other _ _ _ _ (by simp)]; exact e1, by rw [World.cell?_setCell_other _ _ _ _ (by simp), World.cell?_setCell_other _ _ _ _ (by simp)]; exact e2⟩
  clear HK K hHeld hHeld2
  try simp only [Act.put, List.setIfInBounds_toArray, List.set_cons_zero, List.set_cons_succ]
  refine wpAnyH_done (by kernel_rfl) ?_ _
  go_wp2
  have k0 : ((W2.setCell ⟨w.heap.size + 1, 0, none⟩ (.int .i64 (ht ps x.s))).setCell ⟨w.heap.size + 1, 1, none⟩ (.int .i64 (ht ps x.t))).cell? ⟨w.heap.size + 1, 0, none⟩ = some (.int .i64 (ht ps x.s)) := by
    rw [World.cell?_setCell_other _ _ _ _ (by simp)]; exact World.cell?_setCell_same' _ _ _ (by rw [f0]; rfl)
  have k1 : ((W2.setCell ⟨w.heap.size + 1, 0, none⟩ (.int .i64 (ht ps x.s))).setCell ⟨w.heap.size + 1, 1, none⟩ (.int .i64 (ht ps x.t))).cell? ⟨w.heap.size + 1, 1, none⟩ = some (.int .i64 (ht ps x.t)) :=
    World.cell?_setCell_same' _ _ _ (by rw [World.cell?_setCell_other _ _ _ _ (by simp), f1]; rfl)
  refine ⟨rfl, .agg #[I64 (ht ps x.s), I64 (ht ps x.t)], ?_, rfl, ?_⟩
  · simp [results, Tryz.f162, go_sem, k0, k1]
  · exact ((hB0.trans (hB2.mono (by omega))).setCell (p := ⟨w.heap.size + 1, 0, none⟩) (by dsimp only; omega) _).setCell (p := ⟨w.heap.size + 1, 1, none⟩) (by dsimp only; omega) _

end Go.Proofs.YtgebcnnenhgkcaaGreat
