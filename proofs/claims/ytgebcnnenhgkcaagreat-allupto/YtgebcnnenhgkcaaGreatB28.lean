/- The caller's lists: how they lie, each with its own mark; and append, where a slice that is left behind stays as it was. -/
import Derived.Test.YtgebcnnenhgkcaaGreatB09
import Derived.Test.YtgebcnnenhgkcaaGreatB12
import Derived.Test.YtgebcnnenhgkcaaGreatB13
namespace Go.Proofs.YtgebcnnenhgkcaaGreat
open Go.RowKit Go.Shelf

section
variable {P : Program}
/-- append onto a row of one's own: the new slice lies in the old block, which alone has turned; or in a new one, and nothing has turned. -/
theorem run_append_two (w : World) (t ty : TypeId) (base : Nat) (e : TypeId) (i : TypeInfo) (z : Value) (size bytes : Nat) (ht : P.underlying t = some (.slice e)) (hi : P.info? e = some i) (hz : i.zero = some z)
    (hsize : i.size = size) (hby : i.bytes = bytes) (hzs : z.cells.size = size) (hsz : 0 < size)
    (v : Value) (n : Nat) (xs : List Value) (hown : w.ownsRow base e size v n xs)
    (ad : Addr) (m c : Nat) (news : List Value) (hl : news.length = m * size) (hnews : ∀ j u, news[j]? = some u → w.cell? (ad.add j) = some u) (h1 : ∀ u ∈ news, u.oneCell' = true)
    (hm : 0 < m) (h63 : n + m ≤ maxLen) (hbytes : (n + m) * bytes ≤ 140737488355328) (hbase : base ≤ w.heap.size) (H : Nat) (hH : w.heap.size = H) :
    ∃ g cap w', (Builtin.append_ #[t, t] ty #[v, .slice (some ad) m c]).run P w = .ok (.slice (some ⟨g, 0, none⟩) (n + m) cap) w' ∧
      w'.ownsRow base e size (.slice (some ⟨g, 0, none⟩) (n + m) cap) (n + m) (xs ++ news) ∧ ((v.ownBlock = some g ∧ w.grownBy w' (some g)) ∨ (g = H ∧ w.grownBy w' none)) ∧ g < w'.heap.size := by
  obtain ⟨g, cap, w', hr, h2, h3, h4, h5⟩ := run_append_lies (P := P) w t ty base e i z size bytes ht hi hz hsize hby hzs hsz v n xs hown ad m c news hl hnews h1 hm h63 hbytes hbase H hH
  refine ⟨g, cap, w', hr, h2, ?_, h5⟩
  rcases hown.2 with ⟨rfl, _⟩ | ⟨g0, cap0, cur, rfl, hbg, hg, hnc, hcm, hcs, htake⟩
  · rcases h4 with h4 | h4
    · cases h4
    · exact .inr ⟨h4, h3⟩
  · subst hsize
    by_cases hroom : n + m ≤ cap0
    · have hfit : n * i.size + news.length ≤ cur.size := by rw [hl, hcs, ← Nat.add_mul]; exact Nat.mul_le_mul_right _ hroom
      have hr2 := run_append_room (P := P) w t ty e i ht hi g0 n cap0 cur hg ad m c news hl hnews h1 hroom hfit
      rw [hr2] at hr
      injection hr with e1 e2
      injection e1 with e3
      injection e3 with e4
      injection e4 with e5
      subst e5
      exact .inl ⟨rfl, h3⟩
    · have holds : ∀ j u, xs[j]? = some u → w.cell? ((⟨g0, 0, none⟩ : Addr).add j) = some u := hown.cells (g := g0) rfl
      have hsmall : n + m ≤ 9223372036854775807 := by simp only [maxLen] at h63; omega
      subst hby
      have hr2 := run_append_grow (P := P) w t ty e i z ht hi hz ⟨g0, 0, none⟩ n cap0 xs hown.1 holds ad m c news hl hnews (by omega) (by omega) (growslice_fits (by omega) hbytes)
      rw [hr2] at hr
      injection hr with e1 e2
      injection e1 with e3
      injection e3 with e4
      injection e4 with e5
      subst e2
      refine .inr ⟨by rw [← e5, hH], ⟨rfl, rfl, rfl, by simp, fun k hk _ => Below.heap_alloc _ _ _ hk⟩⟩
theorem wpList_append_two {w : World} {ops : Array Oper} {rest : List Oper} {o : Oper} {a : Act} {Q : Exit → Act → World → Prop} (hgd : o.guard = none) (s x : Operand) (t : TypeId)
    (ho : o.op = .call { callee := .builtin .append, args := #[s, x], argTypes := #[t, t] })
    (base : Nat) (e : TypeId) (i : TypeInfo) (z : Value) (size bytes : Nat) (ht : P.underlying t = some (.slice e)) (hi : P.info? e = some i) (hz : i.zero = some z)
    (hsize : i.size = size) (hby : i.bytes = bytes) (hzs : z.cells.size = size) (hsz : 0 < size)
    (v : Value) (n : Nat) (xs : List Value) (hs : a.eval s = v) (hown : w.ownsRow base e size v n xs)
    (ad : Addr) (m c : Nat) (news : List Value) (hx : a.eval x = .slice (some ad) m c) (hl : news.length = m * size) (hnews : ∀ j u, news[j]? = some u → w.cell? (ad.add j) = some u) (h1 : ∀ u ∈ news, u.oneCell' = true)
    (hm : 0 < m) (h63 : n + m ≤ maxLen) (hbytes : (n + m) * bytes ≤ 140737488355328) (hbase : base ≤ w.heap.size) (H : Nat) (hH : w.heap.size = H)
    (h : ∀ g cap w', w'.ownsRow base e size (.slice (some ⟨g, 0, none⟩) (n + m) cap) (n + m) (xs ++ news) → ((v.ownBlock = some g ∧ w.grownBy w' (some g)) ∨ (g = H ∧ w.grownBy w' none)) → g < w'.heap.size → wpList P ops Q rest (a.put o.dst (.slice (some ⟨g, 0, none⟩) (n + m) cap)) w') : wpList P ops Q (o :: rest) a w := by
  refine wpList_plain hgd fun K hK => ?_
  obtain ⟨g, cap, w', hr, h2, h3, h5⟩ := run_append_two (P := P) w t o.type base e i z size bytes ht hi hz hsize hby hzs hsz v n xs hown ad m c news hl hnews h1 hm h63 hbytes hbase H hH
  unfold Oper.wp execOp
  simp only [ho, resolve, invoke, builtin, Sem.run_bind, Sem.run_pure, Result.andThen_ok, List.map_toArray, List.map_cons, List.map_nil, hs, hx, hr]
  exact hK _ _ (h g cap w' h2 h3 h5)
end

/-- Whose a block is: known blocks keep their colour, new ones get c. -/
def ext (n : Nat) (col : Nat → Nat) (c : Nat) : Nat → Nat := fun k => if k < n then col k else c
theorem ext_lt {n k c : Nat} {col : Nat → Nat} (h : k < n) : ext n col c k = col k := if_pos h
theorem ext_ge {n k c : Nat} {col : Nat → Nat} (h : n ≤ k) : ext n col c k = c := if_neg (by omega)

/-- A list that reads as its owner wrote it: each element the cells mc k. -/
def Mk (w : World) (col : Nat → Nat) (cl sz : Nat) (mc : Nat → List Value) (k : Nat) (v : Value) : Prop :=
  ∃ p n c, v = .slice p n c ∧ n ≤ maxLen ∧ (n = 0 ∨ ∃ g o, p = some ⟨g, o, none⟩ ∧ col g = cl ∧ g < w.heap.size ∧ ∀ j, j < n → ∀ i u, (mc k)[i]? = some u → w.cell? ⟨g, o + j * sz + i, none⟩ = some u)
theorem Mk.kept {w w' : World} {col col' : Nat → Nat} {cl sz : Nat} {mc : Nat → List Value} {k : Nat} {v : Value} {S : Nat → Prop} (h : Mk w col cl sz mc k v) (hc : Chg S w w') (hs : ∀ b, v.ownBlock = some b → b < w.heap.size → col b = cl → ¬ S b) (hcol : ∀ b, b < w.heap.size → col' b = col b) : Mk w' col' cl sz mc k v := by
  obtain ⟨p, n, c, rfl, hn, h⟩ := h
  refine ⟨p, n, c, rfl, hn, ?_⟩
  rcases h with h | ⟨g, o, rfl, hg, hl, h⟩
  · exact .inl h
  · exact .inr ⟨g, o, rfl, by rw [hcol g hl]; exact hg, Nat.lt_of_lt_of_le hl hc.size, fun j hj i u hu => hc.cell (h j hj i u hu) (hs g rfl hl hg)⟩
/-- A row of such lists. -/
structure MkSt (w : World) (col : Nat → Nat) (cr cl sz : Nat) (tr : TypeId) (mc : Nat → List Value) (vr : Value) (I : List Value) : Prop where
  row : w.ownsRow 0 tr 1 vr I.length I
  colr : ∀ k, vr.ownBlock = some k → col k = cr
  each : ∀ k v, I[k]? = some v → Mk w col cl sz mc k v
theorem MkSt.kept {w w' : World} {col col' : Nat → Nat} {cr cl sz : Nat} {tr : TypeId} {mc : Nat → List Value} {vr : Value} {I : List Value} {S : Nat → Prop} (h : MkSt w col cr cl sz tr mc vr I) (hc : Chg S w w') (hs : ∀ b, b < w.heap.size → (col b = cr ∨ col b = cl) → ¬ S b) (hcol : ∀ b, b < w.heap.size → col' b = col b) : MkSt w' col' cr cl sz tr mc vr I :=
  ⟨hc.row h.row (fun k hk => hs k (h.row.lt k hk).2 (.inl (h.colr k hk))), fun k hk => by rw [hcol k (h.row.lt k hk).2]; exact h.colr k hk, fun k v hv => (h.each k v hv).kept hc (fun b _ hl hb => hs b hl (.inr hb)) hcol⟩
/-- No list of the row touches the place o of block g, or what lies behind it. -/
def NoT (sz : Nat) (I : List Value) (g o : Nat) : Prop := ∀ v ∈ I, v.ownBlock = some g → ∃ p' n' c', v = .slice p' n' c' ∧ (n' = 0 ∨ ∃ o', p' = some ⟨g, o', none⟩ ∧ o' + n' * sz ≤ o)
theorem NoT.mono {sz : Nat} {I : List Value} {g o o' : Nat} (h : NoT sz I g o) (ho : o ≤ o') : NoT sz I g o' := fun v hv hb => by
  obtain ⟨a, b, c, e, h1⟩ := h v hv hb
  refine ⟨a, b, c, e, ?_⟩
  rcases h1 with h1 | ⟨q, e2, h1⟩
  · exact .inl h1
  · exact .inr ⟨q, e2, by omega⟩
theorem after_app {w w3 : World} {k gA H : Nat} {v : Value} (hat : (v.ownBlock = some gA ∧ w.grownBy w3 (some gA)) ∨ (gA = H ∧ w.grownBy w3 none)) (hk : k < w.heap.size) (hne : v.ownBlock ≠ some k) : w3.heap[k]? = w.heap[k]? := by
  rcases hat with ⟨h1, h2⟩ | ⟨_, h2⟩
  · exact h2.block k hk (fun e => hne (by rw [h1, ← e]))
  · exact h2.block k hk (fun e => by cases e)
theorem after_app_chg {w w3 : World} {gA H : Nat} {v : Value} (hat : (v.ownBlock = some gA ∧ w.grownBy w3 (some gA)) ∨ (gA = H ∧ w.grownBy w3 none)) : Chg (fun k => v.ownBlock = some k) w w3 := by
  rcases hat with ⟨h1, h2⟩ | ⟨_, h2⟩
  · exact ⟨h2.os, h2.tape, h2.output, h2.size, fun k hk hn => h2.block k hk (fun e => hn (by rw [h1, ← e]))⟩
  · exact ⟨h2.os, h2.tape, h2.output, h2.size, fun k hk hn => h2.block k hk (fun e => by cases e)⟩
/-- Behind a mark: the list is in the row, and everything reads as it was written. -/
theorem mark_end {w wr w3 : World} {col : Nat → Nat} {cr cl sz off : Nat} {te tr tW : TypeId} {mc : Nat → List Value} {bw : Nat} {sc : Value → Array Value} {vi : Value} {I : List Value} {p : Option Addr} {n c g o gA cA : Nat} {cur cu : Array Value} {ob : Obj}
    (hb : w.heap[bw]? = some (.cells (sc vi) tW (0, 0))) (hset : ∀ u, (sc vi).setIfInBounds off u = sc u) (hcb : col bw = 1) (h1r : 1 ≠ cr) (h1l : 1 ≠ cl) (hrl : cr ≠ cl) (hM : MkSt w col cr cl sz tr mc vi I)
    (HG : 0 < n → p = some ⟨g, o, none⟩ ∧ col g = cl ∧ w.heap[g]? = some (.cells cur te (0, 0)) ∧ o + n * sz ≤ cur.size ∧ NoT sz I g o) (hms : ∀ k, (mc k).length = sz) (hn : n ≤ maxLen)
    (hc : Chg (fun k => 0 < n ∧ k = g) w wr)
    (HC : 0 < n → wr.heap[g]? = some (.cells cu te (0, 0)) ∧ cu.size = cur.size ∧ (∀ q, q < o → cu[q]? = cur[q]?) ∧ ∀ t, t < n → ∀ i u, (mc I.length)[i]? = some u → cu[o + t * sz + i]? = some u)
    (hown3 : w3.ownsRow 0 tr 1 (.slice (some ⟨gA, 0, none⟩) (I.length + 1) cA) (I.length + 1) (I ++ [.slice p n c]))
    (hat3 : (vi.ownBlock = some gA ∧ (wr.alloc ob).grownBy w3 (some gA)) ∨ (gA = wr.heap.size + 1 ∧ (wr.alloc ob).grownBy w3 none)) :
    (w3.setCell ⟨bw, off, none⟩ (.slice (some ⟨gA, 0, none⟩) (I.length + 1) cA)).heap[bw]? = some (.cells (sc (.slice (some ⟨gA, 0, none⟩) (I.length + 1) cA)) tW (0, 0)) ∧
    MkSt (w3.setCell ⟨bw, off, none⟩ (.slice (some ⟨gA, 0, none⟩) (I.length + 1) cA)) (ext w.heap.size col cr) cr cl sz tr mc (.slice (some ⟨gA, 0, none⟩) (I.length + 1) cA) (I ++ [.slice p n c]) ∧
    Chg (fun k => k = bw ∨ vi.ownBlock = some k ∨ (0 < n ∧ ∃ o, p = some ⟨k, o, none⟩)) w (w3.setCell ⟨bw, off, none⟩ (.slice (some ⟨gA, 0, none⟩) (I.length + 1) cA)) ∧
    (∀ g o cur, p = some ⟨g, o, none⟩ → 0 < n → w.heap[g]? = some (.cells cur te (0, 0)) → ∃ cur', (w3.setCell ⟨bw, off, none⟩ (.slice (some ⟨gA, 0, none⟩) (I.length + 1) cA)).heap[g]? = some (.cells cur' te (0, 0)) ∧ cur'.size = cur.size) := by
  have hbl : bw < w.heap.size := (Array.getElem?_eq_some_iff.1 hb).1
  have hzr := hc.size
  have hBa : Below wr.heap.size wr (wr.alloc ob) := (Below.refl _ wr).alloc (Nat.le_refl _) _
  have hza : (wr.alloc ob).heap.size = wr.heap.size + 1 := by simp
  have hvb : vi.ownBlock ≠ some bw := fun e => by have := hM.colr bw e; omega
  have hgb : 0 < n → g ≠ bw := fun h e => by have := (HG h).2.1; rw [e, hcb] at this; exact h1l this
  have hbr : wr.heap[bw]? = some (.cells (sc vi) tW (0, 0)) := (hc.block bw hbl (fun h => hgb h.1 h.2.symm)).trans hb
  have hb3 : w3.heap[bw]? = some (.cells (sc vi) tW (0, 0)) := (after_app hat3 (by omega) hvb).trans ((hBa.block bw (by omega)).trans hbr)
  have hgl : gA = w.heap.size ∨ gA ≠ bw := by
    by_cases e : gA = bw
    · exfalso
      rcases hat3 with ⟨h1, _⟩ | ⟨h1, _⟩
      · exact hvb (by rw [h1, e])
      · omega
    · exact .inr e
  have hgAb : gA ≠ bw := hgl.elim (fun e => by omega) id
  have keep : ∀ k, k < w.heap.size → k ≠ bw → vi.ownBlock ≠ some k → (w3.setCell ⟨bw, off, none⟩ (.slice (some ⟨gA, 0, none⟩) (I.length + 1) cA)).heap[k]? = wr.heap[k]? := fun k hk h1 h2 =>
    (Below.heap_setCell _ _ _ _ h1).trans ((after_app hat3 (by omega) h2).trans (hBa.block k (by omega)))
  have keepL : ∀ k, k < w.heap.size → col k = cl → (w3.setCell ⟨bw, off, none⟩ (.slice (some ⟨gA, 0, none⟩) (I.length + 1) cA)).heap[k]? = wr.heap[k]? := fun k hk h1 => keep k hk (fun e => by rw [e, hcb] at h1; exact h1l h1) (fun e => by have := hM.colr k e; exact hrl (by rw [← this, h1]))
  have hc3 : Chg (fun k => vi.ownBlock = some k) (wr.alloc ob) w3 := after_app_chg hat3
  have hsz' : w.heap.size ≤ (w3.setCell ⟨bw, off, none⟩ (.slice (some ⟨gA, 0, none⟩) (I.length + 1) cA)).heap.size := by have := hc3.size; simp [World.setCell]; omega
  refine ⟨?_, ⟨?_, ?_, ?_⟩, ?_, ?_⟩
  · rw [← hset]
    exact heap_setCell_same _ bw off _ _ _ hb3
  · rw [List.length_append]
    exact ((Chg.refl (fun k => k = bw) w3).setCell (p := ⟨bw, off, none⟩) (.inl rfl) _).row hown3 (fun k hk e => by simp [Value.ownBlock] at hk; omega)
  · intro k hk
    have hk' : gA = k := by simpa [Value.ownBlock] using hk
    subst hk'
    rcases hat3 with ⟨h1, _⟩ | ⟨h1, _⟩
    · rw [ext_lt (hM.row.lt gA h1).2]; exact hM.colr gA h1
    · exact ext_ge (by omega)
  · intro k v hv
    by_cases hkl : k < I.length
    · rw [List.getElem?_append_left hkl] at hv
      obtain ⟨p', n', c', rfl, hn', hm⟩ := hM.each k v hv
      refine ⟨p', n', c', rfl, hn', ?_⟩
      rcases hm with hm | ⟨g', o', rfl, hcg', hgl', hm⟩
      · exact .inl hm
      · refine .inr ⟨g', o', rfl, by rw [ext_lt hgl']; exact hcg', by omega, fun j hj i u hu => ?_⟩
        have h1 := hm j hj i u hu
        rw [World.cell?_of_block (w := wr) (keepL g' hgl' hcg')]
        by_cases hgg : 0 < n ∧ g' = g
        · obtain ⟨hn0, rfl⟩ := hgg
          obtain ⟨_, _, hgw, _, hno⟩ := HG hn0
          obtain ⟨hgr, hcs, hlow, _⟩ := HC hn0
          obtain ⟨p2, n2, c2, he, hb2⟩ := hno _ (List.mem_of_getElem? hv) rfl
          simp only [Value.slice.injEq] at he
          obtain ⟨rfl, rfl, rfl⟩ := he
          rcases hb2 with hb2 | ⟨o2, he2, hb2⟩
          · omega
          simp only [Option.some.injEq, Addr.mk.injEq, true_and, and_true] at he2
          subst he2
          rw [cell_of_heap hgw] at h1
          rw [cell_of_heap hgr, hlow _ ?_]
          · exact h1
          · have hi : i < sz := by have := (List.getElem?_eq_some_iff.1 hu).1; rw [hms] at this; exact this
            have hjn : j * sz + sz ≤ n' * sz := by
              have : (j + 1) * sz ≤ n' * sz := Nat.mul_le_mul_right _ hj
              rw [Nat.add_mul, Nat.one_mul] at this; exact this
            omega
        · rw [World.cell?_of_block (w := w) (hc.block g' hgl' hgg)]; exact h1
    · have hke : k = I.length := by
        have := (List.getElem?_eq_some_iff.1 hv).1
        simp at this; omega
      subst hke
      rw [List.getElem?_append_right (Nat.le_refl _), Nat.sub_self] at hv
      simp at hv
      subst hv
      refine ⟨p, n, c, rfl, hn, ?_⟩
      by_cases hn0 : 0 < n
      · obtain ⟨rfl, hcg, hgw, _, _⟩ := HG hn0
        obtain ⟨hgr, hcs, _, hd⟩ := HC hn0
        have hgl2 := (Array.getElem?_eq_some_iff.1 hgw).1
        refine .inr ⟨g, o, rfl, by rw [ext_lt hgl2]; exact hcg, by omega, fun j hj i u hu => ?_⟩
        rw [World.cell?_of_block (w := wr) (keepL g hgl2 hcg), cell_of_heap hgr]
        exact hd j hj i u hu
      · exact .inl (by omega)
  · refine (((hc.mono (T := fun k => k = bw ∨ vi.ownBlock = some k ∨ (0 < n ∧ ∃ o, p = some ⟨k, o, none⟩)) (fun k _ h => .inr (.inr ⟨h.1, o, by rw [h.2]; exact (HG h.1).1⟩))).alloc ob).then hc3 (fun k e => .inl (.inr (.inl e)))).setCell (p := ⟨bw, off, none⟩) (.inl (.inl rfl)) _
  · intro g' o' cur' he hn0 hg'
    obtain ⟨rfl, hcg, hgw, _, _⟩ := HG hn0
    simp only [Option.some.injEq, Addr.mk.injEq, and_true] at he
    obtain ⟨rfl, rfl⟩ := he
    rw [hgw] at hg'
    simp only [Option.some.injEq, Obj.cells.injEq, and_true] at hg'
    subst hg'
    obtain ⟨hgr, hcs, _, _⟩ := HC hn0
    exact ⟨cu, (keepL g (Array.getElem?_eq_some_iff.1 hgw).1 hcg).trans hgr, hcs⟩
/-- Behind an append, what lay ahead of the new lies as it lay. -/
theorem app_cells {w w3 : World} {e : TypeId} {sz n m gA cA H : Nat} {v : Value} {xs news : List Value} (hown : w.ownsRow 0 e sz v n xs) (hown3 : w3.ownsRow 0 e sz (.slice (some ⟨gA, 0, none⟩) (n + m) cA) (n + m) (xs ++ news))
    (hat : (v.ownBlock = some gA ∧ w.grownBy w3 (some gA)) ∨ (gA = H ∧ w.grownBy w3 none)) {k q : Nat} (hk : k < w.heap.size) (hq : v.ownBlock = some k → q < n * sz) : w3.cell? ⟨k, q, none⟩ = w.cell? ⟨k, q, none⟩ := by
  by_cases hv : v.ownBlock = some k
  · rcases hat with ⟨h1, h2⟩ | ⟨_, h2⟩
    · have e1 : gA = k := by rw [hv] at h1; injection h1 with h1; exact h1.symm
      subst e1
      have hql := hq hv
      have hxl : q < xs.length := by rw [hown.1]; exact hql
      have hs1 := hown.cells hv q _ (List.getElem?_eq_getElem hxl)
      have hs3 := hown3.cells (g := gA) rfl q xs[q] (by rw [List.getElem?_append_left hxl]; exact List.getElem?_eq_getElem hxl)
      rw [add_none, Nat.zero_add] at hs1 hs3
      rw [hs1, hs3]
    · exact World.cell?_of_block (h2.block k hk (fun e => by cases e))
  · exact World.cell?_of_block (after_app hat hk hv)
/-- The row whose lists are told stays told, when one of its lists is appended to. -/
theorem MkSt.app {w w3 : World} {ob : Obj} {col : Nat → Nat} {cr cl sz : Nat} {tr te : TypeId} {mc : Nat → List Value} {vr : Value} {I : List Value} {n m gA cA : Nat} {v : Value} {xs news : List Value} (h : MkSt w col cr cl sz tr mc vr I) (hrl : cr ≠ cl) (hms : ∀ k, (mc k).length = sz)
    (hown : w.ownsRow 0 te sz v n xs) (hv : ∀ b, v.ownBlock = some b → col b = cl ∧ NoT sz I b (n * sz)) (hown3 : w3.ownsRow 0 te sz (.slice (some ⟨gA, 0, none⟩) (n + m) cA) (n + m) (xs ++ news))
    (hat : (v.ownBlock = some gA ∧ (w.alloc ob).grownBy w3 (some gA)) ∨ (gA = w.heap.size + 1 ∧ (w.alloc ob).grownBy w3 none)) : MkSt w3 (ext w.heap.size col cl) cr cl sz tr mc vr I := by
  have hBa : Below w.heap.size w (w.alloc ob) := (Below.refl _ w).alloc (Nat.le_refl _) _
  have hza : (w.alloc ob).heap.size = w.heap.size + 1 := by simp
  have hc3 := after_app_chg hat
  have hcw : Chg (fun k => v.ownBlock = some k) w w3 := (Chg.of_below _ hBa).trans hc3
  refine ⟨hcw.row h.row (fun k hk e => ?_), fun k hk => by rw [ext_lt (h.row.lt k hk).2]; exact h.colr k hk, fun k u hu => ?_⟩
  · have h1 := h.colr k hk
    rw [(hv k e).1] at h1
    exact hrl h1.symm
  · obtain ⟨p, n', c, rfl, hn', hm⟩ := h.each k u hu
    refine ⟨p, n', c, rfl, hn', ?_⟩
    rcases hm with hm | ⟨g, o, rfl, hcg, hgl, hm⟩
    · exact .inl hm
    · refine .inr ⟨g, o, rfl, by rw [ext_lt hgl]; exact hcg, by have := hcw.size; omega, fun j hj i u' hu' => ?_⟩
      have h1 := hm j hj i u' hu'
      rw [app_cells (hown.alloc ob) hown3 hat (by omega) (fun e => ?_)]
      · exact (hBa.cell (p := ⟨g, o + j * sz + i, none⟩) hgl).trans h1
      · obtain ⟨p2, n2, c2, he, hb2⟩ := (hv g e).2 _ (List.mem_of_getElem? hu) rfl
        simp only [Value.slice.injEq] at he
        obtain ⟨rfl, rfl, rfl⟩ := he
        rcases hb2 with hb2 | ⟨o2, he2, hb2⟩
        · omega
        simp only [Option.some.injEq, Addr.mk.injEq, true_and, and_true] at he2
        subst he2
        have hi : i < sz := by have := (List.getElem?_eq_some_iff.1 hu').1; rw [hms] at this; exact this
        have hjn : j * sz + sz ≤ n' * sz := by
          have : (j + 1) * sz ≤ n' * sz := Nat.mul_le_mul_right _ hj
          rw [Nat.add_mul, Nat.one_mul] at this; exact this
        omega
theorem MkSt.noT {w : World} {col : Nat → Nat} {cr cl sz : Nat} {tr : TypeId} {mc : Nat → List Value} {vr : Value} {I : List Value} (h : MkSt w col cr cl sz tr mc vr I) {g : Nat} (hg : w.heap.size ≤ g) (o : Nat) : NoT sz I g o := fun v hv hb => by
  obtain ⟨k, hk⟩ := List.mem_iff_getElem?.1 hv
  obtain ⟨p, n, c, rfl, _, hm⟩ := h.each k v hk
  refine ⟨p, n, c, rfl, ?_⟩
  rcases hm with hm | ⟨g', o', rfl, _, hl, _⟩
  · exact .inl hm
  · have : g' = g := by simpa [Value.ownBlock] using hb
    omega
def mcI (k : Nat) : List Value := [I64 (-1 - k)]
def mcG (k : Nat) : List Value := [I64 0, I64 (-1 - k), I64 0, I64 0, I64 0, I64 0, I64 0, I64 0]
def mcL (k : Nat) : List Value := [I64 (-1 - k), I64 0, .slice none 0 0]
end Go.Proofs.YtgebcnnenhgkcaaGreat
/- The caller's lists: mark, markGuilt, markLinks. -/
namespace Go.Proofs.YtgebcnnenhgkcaaGreat
open Go.RowKit Go.Shelf

/-- Some cells of a block, one behind the other. -/
def setL (w : World) (g off : Nat) : List Value → World
  | [] => w
  | c :: r => setL (w.setCell ⟨g, off, none⟩ c) g (off + 1) r
def putL (cu : Array Value) (off : Nat) : List Value → Array Value
  | [] => cu
  | c :: r => putL (cu.setIfInBounds off c) (off + 1) r
theorem setL_heap {g : Nat} {t : TypeId} : ∀ {w : World} {off : Nat} {cu : Array Value} (cs : List Value), w.heap[g]? = some (.cells cu t (0, 0)) → (setL w g off cs).heap[g]? = some (.cells (putL cu off cs) t (0, 0))
  | _, _, _, [], h => h
  | _, off, _, _ :: r, h => setL_heap r (heap_setCell_same _ g off _ _ _ h)
theorem setL_chg {S : Nat → Prop} {a : World} {g : Nat} : ∀ {w : World}, Chg S a w → (S g ∨ a.heap.size ≤ g) → ∀ (off : Nat) (cs : List Value), Chg S a (setL w g off cs)
  | _, h, _, _, [] => h
  | _, h, hs, off, c :: r => setL_chg (h.setCell (p := ⟨g, off, none⟩) hs c) hs (off + 1) r
theorem putL_size : ∀ (cu : Array Value) (off : Nat) (cs : List Value), (putL cu off cs).size = cu.size
  | _, _, [] => rfl
  | cu, off, c :: r => by rw [putL, putL_size]; simp
theorem putL_ne : ∀ (cu : Array Value) (off : Nat) (cs : List Value) (q : Nat), (q < off ∨ off + cs.length ≤ q) → (putL cu off cs)[q]? = cu[q]?
  | _, _, [], _, _ => rfl
  | cu, off, c :: r, q, h => by
    simp only [List.length_cons] at h
    rw [putL, putL_ne _ _ r q (by omega), Array.getElem?_setIfInBounds_ne (by omega)]
theorem putL_at : ∀ (cu : Array Value) (off : Nat) (cs : List Value) (i : Nat) (u : Value), off + cs.length ≤ cu.size → cs[i]? = some u → (putL cu off cs)[off + i]? = some u
  | _, _, [], _, _, _, h => by simp at h
  | cu, off, c :: r, 0, u, hl, h => by
    simp only [List.length_cons] at hl
    simp only [List.getElem?_cons_zero, Option.some.injEq] at h
    subst h
    rw [putL, putL_ne _ _ r _ (by omega), Nat.add_zero, Array.getElem?_setIfInBounds_self_of_lt (by omega)]
  | cu, off, c :: r, i + 1, u, hl, h => by
    simp only [List.length_cons] at hl
    simp only [List.getElem?_cons_succ] at h
    rw [putL, show off + (i + 1) = off + 1 + i by omega]
    exact putL_at _ _ r i u (by simp; omega) h
theorem mark_step {wr : World} {g o j n sz : Nat} {cu cur : Array Value} {te : TypeId} {cs : List Value} (hcs : cs.length = sz) (hsz : o + n * sz ≤ cur.size) (hj : j < n)
    (H : wr.heap[g]? = some (.cells cu te (0, 0)) ∧ cu.size = cur.size ∧ (∀ q, q < o → cu[q]? = cur[q]?) ∧ ∀ t, t < j → ∀ i u, cs[i]? = some u → cu[o + t * sz + i]? = some u) :
    (setL wr g (o + j * sz) cs).heap[g]? = some (.cells (putL cu (o + j * sz) cs) te (0, 0)) ∧ (putL cu (o + j * sz) cs).size = cur.size ∧ (∀ q, q < o → (putL cu (o + j * sz) cs)[q]? = cur[q]?) ∧ ∀ t, t < j + 1 → ∀ i u, cs[i]? = some u → (putL cu (o + j * sz) cs)[o + t * sz + i]? = some u := by
  obtain ⟨h1, h2, h3, h4⟩ := H
  refine ⟨setL_heap cs h1, by rw [putL_size]; exact h2, fun q hq => by rw [putL_ne _ _ _ _ (by omega)]; exact h3 q hq, fun t ht i u hu => ?_⟩
  have hi : i < sz := by have := (List.getElem?_eq_some_iff.1 hu).1; omega
  by_cases e : t = j
  · subst e
    have : (t + 1) * sz ≤ n * sz := Nat.mul_le_mul_right _ hj
    rw [Nat.add_mul, Nat.one_mul] at this
    exact putL_at _ _ _ i u (by omega) hu
  · have : (t + 1) * sz ≤ j * sz := Nat.mul_le_mul_right _ (by omega)
    rw [Nat.add_mul, Nat.one_mul] at this
    rw [putL_ne _ _ _ _ (by omega)]
    exact h4 t (by omega) i u hu

theorem infoo_I : (Tryz.prog.info? 22).map (fun i => (i.zero, i.size, i.bytes)) = some (some (.slice none 0 0), 1, 24) := by kernel_rfl
set_option maxRecDepth 100000 in
set_option maxHeartbeats 4000000 in
theorem mark_at (w : World) (col : Nat → Nat) (bw : Nat) (vc vi vg vl : Value) (I : List Value) (p : Option Addr) (n c : Nat)
    (hb : w.heap[bw]? = some (.cells #[vc, vi, vg, vl] 56 (0, 0))) (hcb : col bw = 1) (hM : MkSt w col 3 6 1 22 mcI vi I)
    (hl : n = 0 ∨ ∃ g o cur, p = some ⟨g, o, none⟩ ∧ col g = 6 ∧ w.heap[g]? = some (.cells cur 3 (0, 0)) ∧ o + n * 1 ≤ cur.size ∧ NoT 1 I g o) (hn : n ≤ 1000000) (hI : I.length ≤ 1000000000) :
    Calls Tryz.prog 91 #[.pointer (some ⟨bw, 0, none⟩), .slice p n c] w fun e w' => e = .returned (.tuple #[]) ∧ ∃ v', w'.heap[bw]? = some (.cells #[vc, v', vg, vl] 56 (0, 0)) ∧
      MkSt w' (ext w.heap.size col 3) 3 6 1 22 mcI v' (I ++ [.slice p n c]) ∧ Chg (fun k => k = bw ∨ vi.ownBlock = some k ∨ (0 < n ∧ ∃ o, p = some ⟨k, o, none⟩)) w w' ∧
      (∀ g o cur, p = some ⟨g, o, none⟩ → 0 < n → w.heap[g]? = some (.cells cur 3 (0, 0)) → ∃ cur', w'.heap[g]? = some (.cells cur' 3 (0, 0)) ∧ cur'.size = cur.size) := by
  obtain ⟨i0, hi, hz0, hz1, hz2⟩ := info_parts infoo_I
  obtain ⟨pi, ci, hvi⟩ := row_slice hM.row
  subst hvi
  have HM : Hid _ := hM
  have hbl : bw < w.heap.size := (Array.getElem?_eq_some_iff.1 hb).1
  have hmI : (-1 : Int) - I.length ≤ 9223372036854775807 := by omega
  have hmI2 : -9223372036854775808 ≤ (-1 : Int) - I.length := by omega
  clear hM
  obtain ⟨g, o, cur, hg⟩ : ∃ g o cur, 0 < n → p = some ⟨g, o, none⟩ ∧ col g = 6 ∧ w.heap[g]? = some (.cells cur 3 (0, 0)) ∧ o + n * 1 ≤ cur.size ∧ NoT 1 I g o := by
    rcases hl with h | ⟨g, o, cur, h⟩
    · exact ⟨0, 0, #[], fun h' => by omega⟩
    · exact ⟨g, o, cur, fun _ => h⟩
  clear hl
  have HG : Hid _ := hg
  clear hg
  go_enter Tryz.func91, Tryz.ntmps91
  go_wp2_with fail
  go_loopw [4] (fun ii wr => ∃ (j : Nat) (cu : Array Value), j ≤ n ∧ ii = .int .i64 j ∧ Chg (fun k => 0 < n ∧ k = g) w wr ∧ Hid (0 < n → wr.heap[g]? = some (.cells cu 3 (0, 0)) ∧ cu.size = cur.size ∧ (∀ q, q < o → cu[q]? = cur[q]?) ∧ ∀ t, t < j → ∀ i u, (mcI I.length)[i]? = some u → cu[o + t * 1 + i]? = some u)) (fun ii _ => n - (intOf ii).toNat)
  case atStart => exact ⟨0, cur, by omega, rfl, Chg.refl _ _, fun h => ⟨(HG.out h).2.2.1, rfl, fun _ _ => rfl, fun t ht => by omega⟩⟩
  case round =>
    obtain ⟨j, cu, hj, rfl, hc, HC⟩ := hrel
    have hne : 0 < n → g ≠ bw := fun h e => by have := (HG.out h).2.1; rw [e, hcb] at this; cases this
    have hbr : wr.heap[bw]? = some (.cells #[vc, (.slice pi I.length ci), vg, vl] 56 (0, 0)) := (hc.block bw hbl (fun h => hne h.1 h.2.symm)).trans hb
    have c1 : wr.cell? ⟨bw, 1, none⟩ = some (.slice pi I.length ci) := by rw [cell_of_heap hbr]; rfl
    by_cases hlt : j < n
    · have hlt' : (j : Int) < (n : Int) := by omega
      have hn0 : 0 < n := by omega
      obtain ⟨rfl, hcg, hgw, hsz, hno⟩ := HG.out hn0
      have hC := HC.out hn0
      have hgr := hC.1
      have hcs := hC.2.1
      have hfz := fun q => frozen_of_heap hgr q
      obtain ⟨u0, hu0⟩ : ∃ u, wr.cell? ⟨g, o + j, none⟩ = some u := by rw [cell_of_heap hgr]; exact ⟨_, Array.getElem?_eq_getElem (by omega)⟩
      have hN := mark_step (cs := mcI I.length) (o := o) (sz := 1) rfl hsz hlt hC
      have hcn : Chg (fun k => 0 < n ∧ k = g) w (setL wr g (o + j * 1) (mcI I.length)) := setL_chg hc (.inl ⟨hn0, rfl⟩) _ _
      rw [show o + j * 1 = o + j by omega] at hN hcn
      have HN : Hid (0 < n → _) := fun (_ : 0 < n) => hN
      clear hN
      clear hgr hcs hgw hsz hno HC hC
      go_wp2
      go_roundw
      case rel => exact ⟨j + 1, _, by omega, by go_num, hcn, HN.out⟩
      case measure => simp [intOf]; omega
    · have hje : j = n := by omega
      subst hje
      have hrow : wr.ownsRow 0 22 1 (.slice pi I.length ci) I.length I := hc.row HM.out.row (fun k hk h => by have h1 := HM.out.colr k hk; rw [h.2, (HG.out h.1).2.1] at h1; cases h1)
      have hvb : (Value.slice pi I.length ci).ownBlock ≠ some bw := fun e => by have h1 := HM.out.colr bw e; rw [hcb] at h1; cases h1
      have hbl' : bw < (wr.alloc (.cells #[.slice p j c] 22)).heap.size := by have := hc.size; simp; omega
      have h63 : I.length + 1 ≤ maxLen := by unfold maxLen; omega
      have hba : (wr.alloc (.cells #[.slice p j c] 22)).heap[bw]? = some (.cells #[vc, (.slice pi I.length ci), vg, vl] 56 (0, 0)) := (Below.heap_alloc _ _ _ (Array.getElem?_eq_some_iff.1 hbr).1).trans hbr
      have HBA : Hid _ := hba
      clear hba
      go_wp2_with (at_builtin; refine wpList_append_two (by rfl) _ _ _ (by rfl) 0 22 i0 (.slice none 0 0) 1 24 Tryz.underlying52 hi hz0 hz1 hz2 rfl (by omega) _ I.length I (by rfl) (hrow.alloc _) ⟨wr.heap.size, 0, none⟩ 1 1 [.slice p j c] (by rfl) (by rfl) (World.news_of_block (cs := #[.slice p j c]) (heap_alloc_new _ _)) (by simp [Value.oneCell']) (by omega) h63 (by omega) (Nat.zero_le _) (wr.heap.size + 1) (by simp) ?_; intro gA cA w3 hown3 hat3 hlt3; have hb3 := (after_app hat3 hbl' hvb).trans HBA.out; have d1 : w3.cell? ⟨bw, 1, none⟩ = some (.slice pi I.length ci) := (by rw [cell_of_heap hb3]; rfl); have fz3 := fun q => frozen_of_heap hb3 q; have HME : Hid _ := mark_end (sc := fun u => #[vc, u, vg, vl]) (off := 1) hb (fun u => rfl) hcb (by decide) (by decide) (by decide) HM.out HG.out (fun k => rfl) (by unfold maxLen; omega) hc HC.out hown3 hat3; clear hown3 hat3)
      go_end0
      obtain ⟨m1, m2, m3, m4⟩ := HME.out
      exact ⟨rfl, _, m1, m2, m3, m4⟩

theorem infoo_G : (Tryz.prog.info? 72).map (fun i => (i.zero, i.size, i.bytes)) = some (some (.slice none 0 0), 1, 24) := by kernel_rfl
set_option maxRecDepth 100000 in
set_option maxHeartbeats 4000000 in
theorem markGuilt_at (w : World) (col : Nat → Nat) (bw : Nat) (vc vi vg vl : Value) (I : List Value) (p : Option Addr) (n c : Nat)
    (hb : w.heap[bw]? = some (.cells #[vc, vi, vg, vl] 56 (0, 0))) (hcb : col bw = 1) (hM : MkSt w col 4 7 8 72 mcG vg I)
    (hl : n = 0 ∨ ∃ g o cur, p = some ⟨g, o, none⟩ ∧ col g = 7 ∧ w.heap[g]? = some (.cells cur 84 (0, 0)) ∧ o + n * 8 ≤ cur.size ∧ NoT 8 I g o) (hn : n ≤ 1000000) (hI : I.length ≤ 1000000000) :
    Calls Tryz.prog 92 #[.pointer (some ⟨bw, 0, none⟩), .slice p n c] w fun e w' => e = .returned (.tuple #[]) ∧ ∃ v', w'.heap[bw]? = some (.cells #[vc, vi, v', vl] 56 (0, 0)) ∧
      MkSt w' (ext w.heap.size col 4) 4 7 8 72 mcG v' (I ++ [.slice p n c]) ∧ Chg (fun k => k = bw ∨ vg.ownBlock = some k ∨ (0 < n ∧ ∃ o, p = some ⟨k, o, none⟩)) w w' ∧
      (∀ g o cur, p = some ⟨g, o, none⟩ → 0 < n → w.heap[g]? = some (.cells cur 84 (0, 0)) → ∃ cur', w'.heap[g]? = some (.cells cur' 84 (0, 0)) ∧ cur'.size = cur.size) := by
  obtain ⟨i0, hi, hz0, hz1, hz2⟩ := info_parts infoo_G
  obtain ⟨pi, ci, hvi⟩ := row_slice hM.row
  subst hvi
  have HM : Hid _ := hM
  have hbl : bw < w.heap.size := (Array.getElem?_eq_some_iff.1 hb).1
  have hmI : (-1 : Int) - I.length ≤ 9223372036854775807 := by omega
  have hmI2 : -9223372036854775808 ≤ (-1 : Int) - I.length := by omega
  clear hM
  obtain ⟨g, o, cur, hg⟩ : ∃ g o cur, 0 < n → p = some ⟨g, o, none⟩ ∧ col g = 7 ∧ w.heap[g]? = some (.cells cur 84 (0, 0)) ∧ o + n * 8 ≤ cur.size ∧ NoT 8 I g o := by
    rcases hl with h | ⟨g, o, cur, h⟩
    · exact ⟨0, 0, #[], fun h' => by omega⟩
    · exact ⟨g, o, cur, fun _ => h⟩
  clear hl
  have HG : Hid _ := hg
  clear hg
  go_enter Tryz.func92, Tryz.ntmps92
  go_wp2_with fail
  go_loopw [4] (fun ii wr => ∃ (j : Nat) (cu : Array Value), j ≤ n ∧ ii = .int .i64 j ∧ Chg (fun k => 0 < n ∧ k = g) w wr ∧ Hid (0 < n → wr.heap[g]? = some (.cells cu 84 (0, 0)) ∧ cu.size = cur.size ∧ (∀ q, q < o → cu[q]? = cur[q]?) ∧ ∀ t, t < j → ∀ i u, (mcG I.length)[i]? = some u → cu[o + t * 8 + i]? = some u)) (fun ii _ => n - (intOf ii).toNat)
  case atStart => exact ⟨0, cur, by omega, rfl, Chg.refl _ _, fun h => ⟨(HG.out h).2.2.1, rfl, fun _ _ => rfl, fun t ht => by omega⟩⟩
  case round =>
    obtain ⟨j, cu, hj, rfl, hc, HC⟩ := hrel
    have hne : 0 < n → g ≠ bw := fun h e => by have := (HG.out h).2.1; rw [e, hcb] at this; cases this
    have hbr : wr.heap[bw]? = some (.cells #[vc, vi, (.slice pi I.length ci), vl] 56 (0, 0)) := (hc.block bw hbl (fun h => hne h.1 h.2.symm)).trans hb
    have c1 : wr.cell? ⟨bw, 2, none⟩ = some (.slice pi I.length ci) := by rw [cell_of_heap hbr]; rfl
    by_cases hlt : j < n
    · have hlt' : (j : Int) < (n : Int) := by omega
      have hn0 : 0 < n := by omega
      obtain ⟨rfl, hcg, hgw, hsz, hno⟩ := HG.out hn0
      have hC := HC.out hn0
      have hgr := hC.1
      have hcs := hC.2.1
      have hfz := fun q => frozen_of_heap hgr q
      obtain ⟨u0, hu0⟩ : ∃ u, wr.cell? ⟨g, o + j * 8, none⟩ = some u := by rw [cell_of_heap hgr]; exact ⟨_, Array.getElem?_eq_getElem (by omega)⟩
      obtain ⟨u1, hu1⟩ : ∃ u, wr.cell? ⟨g, o + j * 8 + 1, none⟩ = some u := by rw [cell_of_heap hgr]; exact ⟨_, Array.getElem?_eq_getElem (by omega)⟩
      obtain ⟨u2, hu2⟩ : ∃ u, wr.cell? ⟨g, o + j * 8 + 2, none⟩ = some u := by rw [cell_of_heap hgr]; exact ⟨_, Array.getElem?_eq_getElem (by omega)⟩
      obtain ⟨u3, hu3⟩ : ∃ u, wr.cell? ⟨g, o + j * 8 + 3, none⟩ = some u := by rw [cell_of_heap hgr]; exact ⟨_, Array.getElem?_eq_getElem (by omega)⟩
      obtain ⟨u4, hu4⟩ : ∃ u, wr.cell? ⟨g, o + j * 8 + 4, none⟩ = some u := by rw [cell_of_heap hgr]; exact ⟨_, Array.getElem?_eq_getElem (by omega)⟩
      obtain ⟨u5, hu5⟩ : ∃ u, wr.cell? ⟨g, o + j * 8 + 5, none⟩ = some u := by rw [cell_of_heap hgr]; exact ⟨_, Array.getElem?_eq_getElem (by omega)⟩
      obtain ⟨u6, hu6⟩ : ∃ u, wr.cell? ⟨g, o + j * 8 + 6, none⟩ = some u := by rw [cell_of_heap hgr]; exact ⟨_, Array.getElem?_eq_getElem (by omega)⟩
      obtain ⟨u7, hu7⟩ : ∃ u, wr.cell? ⟨g, o + j * 8 + 7, none⟩ = some u := by rw [cell_of_heap hgr]; exact ⟨_, Array.getElem?_eq_getElem (by omega)⟩
      have hN := mark_step (cs := mcG I.length) (o := o) (sz := 8) rfl hsz hlt hC
      have hcn : Chg (fun k => 0 < n ∧ k = g) w (setL wr g (o + j * 8) (mcG I.length)) := setL_chg hc (.inl ⟨hn0, rfl⟩) _ _
      have HN : Hid (0 < n → _) := fun (_ : 0 < n) => hN
      clear hN
      clear hgr hcs hgw hsz hno HC hC
      go_wp2
      go_roundw
      case rel => exact ⟨j + 1, _, by omega, by go_num, hcn, HN.out⟩
      case measure => simp [intOf]; omega
    · have hje : j = n := by omega
      subst hje
      have hrow : wr.ownsRow 0 72 1 (.slice pi I.length ci) I.length I := hc.row HM.out.row (fun k hk h => by have h1 := HM.out.colr k hk; rw [h.2, (HG.out h.1).2.1] at h1; cases h1)
      have hvb : (Value.slice pi I.length ci).ownBlock ≠ some bw := fun e => by have h1 := HM.out.colr bw e; rw [hcb] at h1; cases h1
      have hbl' : bw < (wr.alloc (.cells #[.slice p j c] 72)).heap.size := by have := hc.size; simp; omega
      have h63 : I.length + 1 ≤ maxLen := by unfold maxLen; omega
      have hba : (wr.alloc (.cells #[.slice p j c] 72)).heap[bw]? = some (.cells #[vc, vi, (.slice pi I.length ci), vl] 56 (0, 0)) := (Below.heap_alloc _ _ _ (Array.getElem?_eq_some_iff.1 hbr).1).trans hbr
      have HBA : Hid _ := hba
      clear hba
      go_wp2_with (at_builtin; refine wpList_append_two (by rfl) _ _ _ (by rfl) 0 72 i0 (.slice none 0 0) 1 24 Tryz.underlying53 hi hz0 hz1 hz2 rfl (by omega) _ I.length I (by rfl) (hrow.alloc _) ⟨wr.heap.size, 0, none⟩ 1 1 [.slice p j c] (by rfl) (by rfl) (World.news_of_block (cs := #[.slice p j c]) (heap_alloc_new _ _)) (by simp [Value.oneCell']) (by omega) h63 (by omega) (Nat.zero_le _) (wr.heap.size + 1) (by simp) ?_; intro gA cA w3 hown3 hat3 hlt3; have hb3 := (after_app hat3 hbl' hvb).trans HBA.out; have d1 : w3.cell? ⟨bw, 2, none⟩ = some (.slice pi I.length ci) := (by rw [cell_of_heap hb3]; rfl); have fz3 := fun q => frozen_of_heap hb3 q; have HME : Hid _ := mark_end (sc := fun u => #[vc, vi, u, vl]) (off := 2) hb (fun u => rfl) hcb (by decide) (by decide) (by decide) HM.out HG.out (fun k => rfl) (by unfold maxLen; omega) hc HC.out hown3 hat3; clear hown3 hat3)
      go_end0
      obtain ⟨m1, m2, m3, m4⟩ := HME.out
      exact ⟨rfl, _, m1, m2, m3, m4⟩

theorem infoo_L : (Tryz.prog.info? 69).map (fun i => (i.zero, i.size, i.bytes)) = some (some (.slice none 0 0), 1, 24) := by kernel_rfl
set_option maxRecDepth 100000 in
set_option maxHeartbeats 4000000 in
theorem markLinks_at (w : World) (col : Nat → Nat) (bw : Nat) (vc vi vg vl : Value) (I : List Value) (p : Option Addr) (n c : Nat)
    (hb : w.heap[bw]? = some (.cells #[vc, vi, vg, vl] 56 (0, 0))) (hcb : col bw = 1) (hM : MkSt w col 5 8 3 69 mcL vl I)
    (hl : n = 0 ∨ ∃ g o cur, p = some ⟨g, o, none⟩ ∧ col g = 8 ∧ w.heap[g]? = some (.cells cur 121 (0, 0)) ∧ o + n * 3 ≤ cur.size ∧ NoT 3 I g o) (hn : n ≤ 1000000) (hI : I.length ≤ 1000000000) :
    Calls Tryz.prog 93 #[.pointer (some ⟨bw, 0, none⟩), .slice p n c] w fun e w' => e = .returned (.tuple #[]) ∧ ∃ v', w'.heap[bw]? = some (.cells #[vc, vi, vg, v'] 56 (0, 0)) ∧
      MkSt w' (ext w.heap.size col 5) 5 8 3 69 mcL v' (I ++ [.slice p n c]) ∧ Chg (fun k => k = bw ∨ vl.ownBlock = some k ∨ (0 < n ∧ ∃ o, p = some ⟨k, o, none⟩)) w w' ∧
      (∀ g o cur, p = some ⟨g, o, none⟩ → 0 < n → w.heap[g]? = some (.cells cur 121 (0, 0)) → ∃ cur', w'.heap[g]? = some (.cells cur' 121 (0, 0)) ∧ cur'.size = cur.size) := by
  obtain ⟨i0, hi, hz0, hz1, hz2⟩ := info_parts infoo_L
  obtain ⟨pi, ci, hvi⟩ := row_slice hM.row
  subst hvi
  have HM : Hid _ := hM
  have hbl : bw < w.heap.size := (Array.getElem?_eq_some_iff.1 hb).1
  have hmI : (-1 : Int) - I.length ≤ 9223372036854775807 := by omega
  have hmI2 : -9223372036854775808 ≤ (-1 : Int) - I.length := by omega
  clear hM
  obtain ⟨g, o, cur, hg⟩ : ∃ g o cur, 0 < n → p = some ⟨g, o, none⟩ ∧ col g = 8 ∧ w.heap[g]? = some (.cells cur 121 (0, 0)) ∧ o + n * 3 ≤ cur.size ∧ NoT 3 I g o := by
    rcases hl with h | ⟨g, o, cur, h⟩
    · exact ⟨0, 0, #[], fun h' => by omega⟩
    · exact ⟨g, o, cur, fun _ => h⟩
  clear hl
  have HG : Hid _ := hg
  clear hg
  go_enter Tryz.func93, Tryz.ntmps93
  go_wp2_with fail
  go_loopw [4] (fun ii wr => ∃ (j : Nat) (cu : Array Value), j ≤ n ∧ ii = .int .i64 j ∧ Chg (fun k => 0 < n ∧ k = g) w wr ∧ Hid (0 < n → wr.heap[g]? = some (.cells cu 121 (0, 0)) ∧ cu.size = cur.size ∧ (∀ q, q < o → cu[q]? = cur[q]?) ∧ ∀ t, t < j → ∀ i u, (mcL I.length)[i]? = some u → cu[o + t * 3 + i]? = some u)) (fun ii _ => n - (intOf ii).toNat)
  case atStart => exact ⟨0, cur, by omega, rfl, Chg.refl _ _, fun h => ⟨(HG.out h).2.2.1, rfl, fun _ _ => rfl, fun t ht => by omega⟩⟩
  case round =>
    obtain ⟨j, cu, hj, rfl, hc, HC⟩ := hrel
    have hne : 0 < n → g ≠ bw := fun h e => by have := (HG.out h).2.1; rw [e, hcb] at this; cases this
    have hbr : wr.heap[bw]? = some (.cells #[vc, vi, vg, (.slice pi I.length ci)] 56 (0, 0)) := (hc.block bw hbl (fun h => hne h.1 h.2.symm)).trans hb
    have c1 : wr.cell? ⟨bw, 3, none⟩ = some (.slice pi I.length ci) := by rw [cell_of_heap hbr]; rfl
    by_cases hlt : j < n
    · have hlt' : (j : Int) < (n : Int) := by omega
      have hn0 : 0 < n := by omega
      obtain ⟨rfl, hcg, hgw, hsz, hno⟩ := HG.out hn0
      have hC := HC.out hn0
      have hgr := hC.1
      have hcs := hC.2.1
      have hfz := fun q => frozen_of_heap hgr q
      obtain ⟨u0, hu0⟩ : ∃ u, wr.cell? ⟨g, o + j * 3, none⟩ = some u := by rw [cell_of_heap hgr]; exact ⟨_, Array.getElem?_eq_getElem (by omega)⟩
      obtain ⟨u1, hu1⟩ : ∃ u, wr.cell? ⟨g, o + j * 3 + 1, none⟩ = some u := by rw [cell_of_heap hgr]; exact ⟨_, Array.getElem?_eq_getElem (by omega)⟩
      obtain ⟨u2, hu2⟩ : ∃ u, wr.cell? ⟨g, o + j * 3 + 2, none⟩ = some u := by rw [cell_of_heap hgr]; exact ⟨_, Array.getElem?_eq_getElem (by omega)⟩
      have hN := mark_step (cs := mcL I.length) (o := o) (sz := 3) rfl hsz hlt hC
      have hcn : Chg (fun k => 0 < n ∧ k = g) w (setL wr g (o + j * 3) (mcL I.length)) := setL_chg hc (.inl ⟨hn0, rfl⟩) _ _
      have HN : Hid (0 < n → _) := fun (_ : 0 < n) => hN
      clear hN
      clear hgr hcs hgw hsz hno HC hC
      go_wp2
      go_roundw
      case rel => exact ⟨j + 1, _, by omega, by go_num, hcn, HN.out⟩
      case measure => simp [intOf]; omega
    · have hje : j = n := by omega
      subst hje
      have hrow : wr.ownsRow 0 69 1 (.slice pi I.length ci) I.length I := hc.row HM.out.row (fun k hk h => by have h1 := HM.out.colr k hk; rw [h.2, (HG.out h.1).2.1] at h1; cases h1)
      have hvb : (Value.slice pi I.length ci).ownBlock ≠ some bw := fun e => by have h1 := HM.out.colr bw e; rw [hcb] at h1; cases h1
      have hbl' : bw < (wr.alloc (.cells #[.slice p j c] 69)).heap.size := by have := hc.size; simp; omega
      have h63 : I.length + 1 ≤ maxLen := by unfold maxLen; omega
      have hba : (wr.alloc (.cells #[.slice p j c] 69)).heap[bw]? = some (.cells #[vc, vi, vg, (.slice pi I.length ci)] 56 (0, 0)) := (Below.heap_alloc _ _ _ (Array.getElem?_eq_some_iff.1 hbr).1).trans hbr
      have HBA : Hid _ := hba
      clear hba
      go_wp2_with (at_builtin; refine wpList_append_two (by rfl) _ _ _ (by rfl) 0 69 i0 (.slice none 0 0) 1 24 Tryz.underlying54 hi hz0 hz1 hz2 rfl (by omega) _ I.length I (by rfl) (hrow.alloc _) ⟨wr.heap.size, 0, none⟩ 1 1 [.slice p j c] (by rfl) (by rfl) (World.news_of_block (cs := #[.slice p j c]) (heap_alloc_new _ _)) (by simp [Value.oneCell']) (by omega) h63 (by omega) (Nat.zero_le _) (wr.heap.size + 1) (by simp) ?_; intro gA cA w3 hown3 hat3 hlt3; have hb3 := (after_app hat3 hbl' hvb).trans HBA.out; have d1 : w3.cell? ⟨bw, 3, none⟩ = some (.slice pi I.length ci) := (by rw [cell_of_heap hb3]; rfl); have fz3 := fun q => frozen_of_heap hb3 q; have HME : Hid _ := mark_end (sc := fun u => #[vc, vi, vg, u]) (off := 3) hb (fun u => rfl) hcb (by decide) (by decide) (by decide) HM.out HG.out (fun k => rfl) (by unfold maxLen; omega) hc HC.out hown3 hat3; clear hown3 hat3)
      go_end0
      obtain ⟨m1, m2, m3, m4⟩ := HME.out
      exact ⟨rfl, _, m1, m2, m3, m4⟩
end Go.Proofs.YtgebcnnenhgkcaaGreat
