/- Links as they lie in memory; link: a link by all who have voted for it. -/
import Derived.Test.YtgebcnnenhgkcaaFinalA
import Derived.Test.YtgebcnnenhgkcaaPureE
namespace Go.Proofs.Ytgebcnnenhgkcaa
open Go.RowKit Go.Shelf

/-- A link, with the slice of its voters. -/
abbrev LkV := Lk × Value
def lvCells (x : LkV) : List Value := [I64 x.1.s, I64 x.1.t, x.2]
def lvRow (X : List LkV) : List Value := X.flatMap lvCells
theorem lvRow_append (a b : List LkV) : lvRow (a ++ b) = lvRow a ++ lvRow b := by simp [lvRow]
theorem lvRow_length (X : List LkV) : (lvRow X).length = X.length * 3 := by
  induction X with
  | nil => rfl
  | cons g r ih => simp [lvRow, lvCells] at *; omega
theorem lvRow_at {X : List LkV} {j : Nat} {x : LkV} (h : X[j]? = some x) {i : Nat} {u : Value} (hu : (lvCells x)[i]? = some u) : (lvRow X)[j * 3 + i]? = some u := by
  induction X generalizing j with
  | nil => simp at h
  | cons a r ih =>
    have e : lvRow (a :: r) = lvCells a ++ lvRow r := by simp [lvRow]
    have hi : i < 3 := by have := (List.getElem?_eq_some_iff.1 hu).1; simpa [lvCells] using this
    rw [e]
    cases j with
    | zero =>
      simp at h; subst h
      rw [List.getElem?_append_left (by simp [lvCells]; omega)]; simpa using hu
    | succ j =>
      rw [List.getElem?_append_right (by simp [lvCells]; omega)]
      have := ih (j := j) (by simpa using h)
      simp only [lvCells, List.length_cons, List.length_nil]
      rw [show (j + 1) * 3 + i - (0 + 1 + 1 + 1) = j * 3 + i by omega]
      exact this
theorem row_slice {w : World} {base : Nat} {e : TypeId} {size : Nat} {v : Value} {n : Nat} {xs : List Value} (h : w.ownsRow base e size v n xs) : ∃ p c, v = .slice p n c := by
  rcases h.2 with ⟨h', h''⟩ | ⟨g, cap, cur, h', _⟩
  · exact ⟨none, 0, by rw [h', h'']⟩
  · exact ⟨_, _, h'⟩
theorem info_link : (Try.prog.info? 25).map (fun i => (i.zero, i.size, i.bytes)) = some (some (.agg #[I64 0, I64 0, .slice none 0 0]), 3, 40) := by kernel_rfl

/-- Links in new memory: the row of links, and a row for the voters of each, no two the same. -/
structure LinksAt (w : World) (base : Nat) (v : Value) (X : List LkV) : Prop where
  row : w.ownsRow base 25 3 v X.length (lvRow X)
  each : ∀ x ∈ X, w.ownsRow base 3 1 x.2 x.1.vs.length (x.1.vs.map I64)
  apart : X.Pairwise (fun x y => ∀ k, x.2.ownBlock = some k → y.2.ownBlock ≠ some k)
theorem LinksAt.nil (w : World) (base : Nat) : LinksAt w base (.slice none 0 0) [] := ⟨World.ownsRow_nil _ _ _ _, fun x h => (by cases h), List.Pairwise.nil⟩
theorem LinksAt.kept {w w' : World} {base : Nat} {v : Value} {X : List LkV} {S : Nat → Prop} (h : LinksAt w base v X) (hc : Chg S w w') (hv : ∀ k, v.ownBlock = some k → ¬ S k) (hx : ∀ x ∈ X, ∀ k, x.2.ownBlock = some k → ¬ S k) : LinksAt w' base v X :=
  ⟨hc.row h.row hv, fun x hxm => hc.row (h.each x hxm) (hx x hxm), h.apart⟩
theorem LinksAt.below {w w' : World} {base B : Nat} {v : Value} {X : List LkV} (h : LinksAt w base v X) (hB : Below B w w') (hb : w.heap.size ≤ B) : LinksAt w' base v X :=
  ⟨row_below h.row hB hb, fun x hx => row_below (h.each x hx) hB hb, h.apart⟩
theorem LinksAt.lower {w : World} {base base' : Nat} {v : Value} {X : List LkV} (h : LinksAt w base v X) (hb : base' ≤ base) : LinksAt w base' v X :=
  ⟨row_lower h.row hb, fun x hx => row_lower (h.each x hx) hb, h.apart⟩

/-- Three stores into a block. -/
def put3 (W : World) (n : Nat) (a b c : Value) : World := ((W.setCell ⟨n, 0, none⟩ a).setCell ⟨n, 1, none⟩ b).setCell ⟨n, 2, none⟩ c
theorem put3_heap {W : World} {n : Nat} {c0 c1 c2 : Value} {t : TypeId} (h : W.heap[n]? = some (.cells #[c0, c1, c2] t (0, 0))) (a b c : Value) : (put3 W n a b c).heap[n]? = some (.cells #[a, b, c] t (0, 0)) := by
  unfold put3
  have h0 : (W.setCell ⟨n, 0, none⟩ a).heap[n]? = some (.cells #[a, c1, c2] t (0, 0)) := heap_setCell_same _ n 0 _ _ _ h
  have h1 : ((W.setCell ⟨n, 0, none⟩ a).setCell ⟨n, 1, none⟩ b).heap[n]? = some (.cells #[a, b, c2] t (0, 0)) := heap_setCell_same _ n 1 _ _ _ h0
  exact heap_setCell_same _ n 2 _ _ _ h1
theorem put3_below {w W : World} {B n : Nat} (h : Below B w W) (hn : B ≤ n) (a b c : Value) : Below B w (put3 W n a b c) :=
  ((h.setCell (p := ⟨n, 0, none⟩) hn _).setCell (p := ⟨n, 1, none⟩) hn _).setCell (p := ⟨n, 2, none⟩) hn _
theorem put3_row {w : World} {base : Nat} {e : TypeId} {size : Nat} {v : Value} {n : Nat} {xs : List Value} (h : w.ownsRow base e size v n xs) {g : Nat} (a b c : Value) (hv : v.ownBlock ≠ some g) : (put3 w g a b c).ownsRow base e size v n xs := by
  have hc : Chg (fun k => k = g) w (put3 w g a b c) := (((Chg.refl (fun k => k = g) w).setCell (p := ⟨g, 0, none⟩) (.inl rfl) a).setCell (p := ⟨g, 1, none⟩) (.inl rfl) b).setCell (p := ⟨g, 2, none⟩) (.inl rfl) c
  exact hc.row h (fun k hk e => hv (by rw [hk, e]))

set_option maxHeartbeats 1000000 in
theorem link_at (b : Nat) (S : Nat → Prop) (m : Int) (ws ps : List Int) (vs : List Vt) (wv pv vv : Value) (s t : Int) (w : World) (h : CourtAt w b S m ws ps vs wv pv vv) (hw : ws.length ≤ 12) (hl : vs.length ≤ 300) (hO : OkV ws.length ps vs) :
    Calls Try.prog 78 #[.pointer (some ⟨b, 0, none⟩), .int .i64 s, .int .i64 t] w fun e w' => (∃ u, e = .returned (.agg #[I64 s, I64 t, u]) ∧ w'.ownsRow w.heap.size 3 1 u (votersL ws.length vs s t).length ((votersL ws.length vs s t).map I64)) ∧ Below w.heap.size w w' := by
  have hBa : Below w.heap.size w (w.alloc (.cells #[I64 0, I64 0, .slice none 0 0] 25)) := (Below.refl _ w).alloc (Nat.le_refl _) _
  have ha := h.kept (Chg.of_below (fun _ => False) hBa) (fun _ _ hf => hf)
  go_enter Try.func78, Try.ntmps78
  go_wp2_with fail
  obtain ⟨wa, hwa⟩ : ∃ wa, w.alloc (.cells #[I64 0, I64 0, .slice none 0 0] 25) = wa := ⟨_, rfl⟩
  have hra : wa.heap[w.heap.size]? = some (.cells #[I64 0, I64 0, .slice none 0 0] 25 (0, 0)) := by rw [← hwa]; exact heap_alloc_new w _
  have hza : wa.heap.size = w.heap.size + 1 := by rw [← hwa]; simp
  rw [hwa] at ha hBa ⊢
  clear hwa
  refine (votersFor_at b S m ws ps vs _ _ _ s t _ ha hw hl hO).mono ?_
  rintro e w1 ⟨⟨u, rfl, hrow⟩, hB1⟩
  have hr1 : w1.heap[w.heap.size]? = some (.cells #[I64 0, I64 0, .slice none 0 0] 25 (0, 0)) := (hB1.block _ (by omega)).trans hra
  have z0 : w1.cell? ⟨w.heap.size, 0, none⟩ = some (I64 0) := by rw [cell_of_heap hr1]; rfl
  have z1 : w1.cell? ⟨w.heap.size, 1, none⟩ = some (I64 0) := by rw [cell_of_heap hr1]; rfl
  have z2 : w1.cell? ⟨w.heap.size, 2, none⟩ = some (.slice none 0 0) := by rw [cell_of_heap hr1]; rfl
  have fz : ∀ o, w1.frozen? ⟨w.heap.size, o, none⟩ = false := fun o => frozen_of_heap hr1 o
  have HR : Hid _ := hr1
  obtain ⟨up, uc, hu⟩ := row_slice hrow
  subst hu
  have hub : (Value.slice up (votersL ws.length vs s t).length uc).ownBlock ≠ some w.heap.size := fun e => by have := (hrow.lt _ e).1; omega
  clear hr1
  go_wp2
  have h3 := put3_heap HR.out (I64 s) (I64 t) (.slice up (votersL ws.length vs s t).length uc)
  have y0 : (put3 w1 w.heap.size (I64 s) (I64 t) (.slice up (votersL ws.length vs s t).length uc)).cell? ⟨w.heap.size, 0, none⟩ = some (I64 s) := by rw [cell_of_heap h3]; rfl
  have y1 : (put3 w1 w.heap.size (I64 s) (I64 t) (.slice up (votersL ws.length vs s t).length uc)).cell? ⟨w.heap.size, 1, none⟩ = some (I64 t) := by rw [cell_of_heap h3]; rfl
  have y2 : (put3 w1 w.heap.size (I64 s) (I64 t) (.slice up (votersL ws.length vs s t).length uc)).cell? ⟨w.heap.size, 2, none⟩ = some (.slice up (votersL ws.length vs s t).length uc) := by rw [cell_of_heap h3]; rfl
  unfold put3 at y0 y1 y2
  refine ⟨rfl, .agg #[I64 s, I64 t, .slice up (votersL ws.length vs s t).length uc], ?_, ⟨_, rfl, ?_⟩, put3_below (hBa.trans (hB1.mono (by omega))) (Nat.le_refl _) _ _ _⟩
  · simp only [results, Try.f78]
    simp [go_sem, y0, y1, y2]
  · exact row_lower (put3_row hrow _ _ _ hub) (by omega)
end Go.Proofs.Ytgebcnnenhgkcaa
