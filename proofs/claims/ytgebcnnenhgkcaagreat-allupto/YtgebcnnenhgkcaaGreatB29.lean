/- The caller's lists: what is owned, with some of its spare room: own, ownGuilt, ownLinks. -/
import Derived.Test.YtgebcnnenhgkcaaGreatB28
import Derived.Test.YtgebcnnenhgkcaaGreatB21
namespace Go.Proofs.YtgebcnnenhgkcaaGreat
open Go.RowKit Go.Shelf

/-- The caller's World: its four rows; every list that is kept reads as its owner wrote it. -/
structure LSt (w : World) (col : Nat → Nat) (bw : Nat) (vc vi vg vl : Value) (I G L : List Value) : Prop where
  hb : w.heap[bw]? = some (.cells #[vc, vi, vg, vl] 56 (0, 0))
  cb : col bw = 1
  sI : MkSt w col 3 6 1 22 mcI vi I
  sG : MkSt w col 4 7 8 72 mcG vg G
  sL : MkSt w col 5 8 3 69 mcL vl L
theorem LSt.kept {w w' : World} {col col' : Nat → Nat} {bw : Nat} {vc vi vg vl : Value} {I G L : List Value} {S : Nat → Prop} (h : LSt w col bw vc vi vg vl I G L) (hc : Chg S w w') (hs : ∀ b, b < w.heap.size → S b → col b ≠ 1 ∧ (col b < 3 ∨ 8 < col b)) (hcol : ∀ b, b < w.heap.size → col' b = col b) : LSt w' col' bw vc vi vg vl I G L := by
  have hbl := (Array.getElem?_eq_some_iff.1 h.hb).1
  exact ⟨(hc.block bw hbl (fun e => (hs bw hbl e).1 h.cb)).trans h.hb, by rw [hcol bw hbl]; exact h.cb, h.sI.kept hc (fun b hl hb e => by have := hs b hl e; omega) hcol, h.sG.kept hc (fun b hl hb e => by have := hs b hl e; omega) hcol, h.sL.kept hc (fun b hl hb e => by have := hs b hl e; omega) hcol⟩
/-- A row of one's own, whatever stands in it. -/
def RowX (w : World) (te : TypeId) (sz : Nat) (v : Value) (n : Nat) : Prop := ∃ xs, w.ownsRow 0 te sz v n xs
theorem RowX.chg {w w' : World} {te : TypeId} {sz n : Nat} {v : Value} {S : Nat → Prop} (h : RowX w te sz v n) (hc : Chg S w w') (hs : ∀ k, v.ownBlock = some k → ¬ S k) : RowX w' te sz v n := by
  obtain ⟨xs, h⟩ := h
  exact ⟨xs, hc.row h hs⟩
theorem RowX.mark {w w' : World} {te : TypeId} {sz n c : Nat} {p : Option Addr} {S : Nat → Prop} (h : RowX w te sz (.slice p n c) n) (hc : Chg (fun k => S k ∨ (0 < n ∧ ∃ o, p = some ⟨k, o, none⟩)) w w') (hs : ∀ k, (Value.slice p n c).ownBlock = some k → ¬ S k)
    (hm : ∀ g o cur, p = some ⟨g, o, none⟩ → 0 < n → w.heap[g]? = some (.cells cur te (0, 0)) → ∃ cur', w'.heap[g]? = some (.cells cur' te (0, 0)) ∧ cur'.size = cur.size) : RowX w' te sz (.slice p n c) n := by
  obtain ⟨xs, h⟩ := h
  rcases h.2 with ⟨he, rfl⟩ | ⟨g, cap, cur, he, _, hg, hle, hmx, hsz, _⟩
  · rw [he]; exact ⟨[], World.ownsRow_nil _ _ _ _⟩
  · simp only [Value.slice.injEq, true_and] at he
    obtain ⟨rfl, rfl⟩ := he
    by_cases h0 : 0 < n
    · obtain ⟨cur', h1, h2⟩ := hm g 0 cur rfl h0 hg
      refine ⟨cur'.toList.take (n * sz), ⟨?_, .inr ⟨g, c, cur', rfl, Nat.zero_le _, h1, hle, hmx, by rw [h2]; exact hsz, rfl⟩⟩⟩
      rw [List.length_take, Array.length_toList, h2, hsz]
      exact Nat.min_eq_left (Nat.mul_le_mul_right _ hle)
    · exact ⟨xs, hc.row h (fun k hk e => e.elim (hs k hk) (fun e => h0 e.1))⟩

theorem LSt.appI {w w3 : World} {ob : Obj} {col : Nat → Nat} {bw : Nat} {vc vi vg vl : Value} {I G L : List Value} {n gA cA : Nat} {v : Value} {xs news : List Value} (h : LSt w col bw vc vi vg vl I G L)
    (hown : w.ownsRow 0 3 1 v n xs) (hv : ∀ b, v.ownBlock = some b → col b = 6 ∧ NoT 1 I b (n * 1)) (hown3 : w3.ownsRow 0 3 1 (.slice (some ⟨gA, 0, none⟩) (n + 1) cA) (n + 1) (xs ++ news))
    (hat : (v.ownBlock = some gA ∧ (w.alloc ob).grownBy w3 (some gA)) ∨ (gA = w.heap.size + 1 ∧ (w.alloc ob).grownBy w3 none)) :
    LSt w3 (ext w.heap.size col 6) bw vc vi vg vl I G L ∧ NoT 1 I gA (n * 1) ∧ ext w.heap.size col 6 gA = 6 ∧ (∃ cur, w3.heap[gA]? = some (.cells cur 3 (0, 0)) ∧ n * 1 + 1 * 1 ≤ cur.size) ∧ n + 1 ≤ cA ∧ Chg (fun k => v.ownBlock = some k) w w3 := by
  have hBa : Below w.heap.size w (w.alloc ob) := (Below.refl _ w).alloc (Nat.le_refl _) _
  have hcw : Chg (fun k => v.ownBlock = some k) w w3 := (Chg.of_below _ hBa).trans (after_app_chg hat)
  have hbl := (Array.getElem?_eq_some_iff.1 h.hb).1
  refine ⟨⟨(hcw.block bw hbl (fun e => by have := (hv bw e).1; have := h.cb; omega)).trans h.hb, by rw [ext_lt hbl]; exact h.cb, h.sI.app (by decide) (fun k => rfl) hown hv hown3 hat, h.sG.kept hcw (fun b hl hb e => by have := (hv b e).1; omega) (fun b hb => ext_lt hb), h.sL.kept hcw (fun b hl hb e => by have := (hv b e).1; omega) (fun b hb => ext_lt hb)⟩, ?_, ?_, ?_, ?_, hcw⟩
  · rcases hat with ⟨h1, _⟩ | ⟨h1, _⟩
    · exact (hv gA h1).2
    · exact h.sI.noT (by omega) _
  · rcases hat with ⟨h1, _⟩ | ⟨h1, _⟩
    · rw [ext_lt (hown.lt gA h1).2]; exact (hv gA h1).1
    · exact ext_ge (by omega)
  · rcases hown3.2 with ⟨h', _⟩ | ⟨g, cap, cur, he, _, hg, hle, _, hs, _⟩
    · cases h'
    · simp only [Value.slice.injEq, Option.some.injEq, Addr.mk.injEq, true_and, and_true] at he
      obtain ⟨rfl, rfl⟩ := he
      exact ⟨cur, hg, by rw [hs, ← Nat.add_mul]; exact Nat.mul_le_mul_right _ hle⟩
  · rcases hown3.2 with ⟨h', _⟩ | ⟨g, cap, cur, he, _, hg, hle, _, hs, _⟩
    · cases h'
    · simp only [Value.slice.injEq, Option.some.injEq, Addr.mk.injEq, true_and, and_true] at he
      obtain ⟨rfl, rfl⟩ := he
      exact hle
theorem LSt.markI {w w' : World} {col : Nat → Nat} {bw : Nat} {vc vi vg vl v' : Value} {I G L : List Value} {p : Option Addr} {n c : Nat} (h : LSt w col bw vc vi vg vl I G L)
    (hp : 0 < n → ∀ k o, p = some ⟨k, o, none⟩ → col k = 6) (m1 : w'.heap[bw]? = some (.cells #[vc, v', vg, vl] 56 (0, 0))) (m2 : MkSt w' (ext w.heap.size col 3) 3 6 1 22 mcI v' (I ++ [.slice p n c])) (hc : Chg (fun k => k = bw ∨ vi.ownBlock = some k ∨ (0 < n ∧ ∃ o, p = some ⟨k, o, none⟩)) w w') :
    LSt w' (ext w.heap.size col 3) bw vc v' vg vl (I ++ [.slice p n c]) G L := by
  have hbl := (Array.getElem?_eq_some_iff.1 h.hb).1
  have hS : ∀ (b : Nat) (_ : b < w.heap.size) {q1 q2 : Nat} (_ : col b = q1 ∨ col b = q2) (_ : b = bw ∨ vi.ownBlock = some b ∨ (0 < n ∧ ∃ o, p = some ⟨b, o, none⟩)), q1 ≠ 1 → q2 ≠ 1 → q1 ≠ 3 → q2 ≠ 3 → q1 ≠ 6 → q2 ≠ 6 → False := by
    intro b hb q1 q2 hq hS h1 h2 h3 h4 h5 h6
    have hcol : col b = 1 ∨ col b = 3 ∨ col b = 6 := by
      rcases hS with rfl | hS | ⟨h0, o, hS⟩
      · exact .inl h.cb
      · exact .inr (.inl (h.sI.colr b hS))
      · exact .inr (.inr (hp h0 b o hS))
    omega
  exact ⟨m1, by rw [ext_lt hbl]; exact h.cb, m2, h.sG.kept hc (fun b hl hb e => hS b hl hb e (by decide) (by decide) (by decide) (by decide) (by decide) (by decide)) (fun b hb => ext_lt hb), h.sL.kept hc (fun b hl hb e => hS b hl hb e (by decide) (by decide) (by decide) (by decide) (by decide) (by decide)) (fun b hb => ext_lt hb)⟩

/-- Behind own: five lists more, of blocks of the list's own or new ones; nothing else has turned. -/
def OwnedI (w w' : World) (col : Nat → Nat) (bw : Nat) (vc _vi vg vl : Value) (I G L : List Value) (v : Value) (m : Nat) : Prop :=
  ∃ (col' : Nat → Nat) (v' : Value) (J : List Value), LSt w' col' bw vc v' vg vl (I ++ J) G L ∧ J.length = m ∧ (∀ k, k < w.heap.size → col' k = col k) ∧ (∀ k, w.heap.size ≤ k → 3 ≤ col' k ∧ col' k ≤ 8) ∧ Chg (fun k => col k = 1 ∨ col k = 3 ∨ v.ownBlock = some k) w w' ∧ (∀ e ∈ J, ∀ k, e.ownBlock = some k → v.ownBlock = some k ∨ w.heap.size ≤ k)
/-- The list as it is appended to. -/
def OwnI (w w' : World) (col : Nat → Nat) (bw : Nat) (vc _vi vg vl : Value) (I G L : List Value) (v : Value) (u : Value) (N m : Nat) : Prop :=
  ∃ (col' : Nat → Nat) (v' : Value) (J : List Value), LSt w' col' bw vc v' vg vl (I ++ J) G L ∧ J.length = m ∧ (∀ k, k < w.heap.size → col' k = col k) ∧ (∀ k, w.heap.size ≤ k → 3 ≤ col' k ∧ col' k ≤ 8) ∧ Chg (fun k => col k = 1 ∨ col k = 3 ∨ v.ownBlock = some k) w w' ∧ (∀ e ∈ J, ∀ k, e.ownBlock = some k → v.ownBlock = some k ∨ w.heap.size ≤ k) ∧
    RowX w' 3 1 u N ∧ ∀ b, u.ownBlock = some b → col' b = 6 ∧ NoT 1 (I ++ J) b (N * 1) ∧ (v.ownBlock = some b ∨ w.heap.size ≤ b)
theorem OwnI.begin {w w' : World} {col : Nat → Nat} {bw : Nat} {vc vi vg vl v' : Value} {I G L : List Value} {p : Option Addr} {n c : Nat} (h : LSt w col bw vc vi vg vl I G L) (hr : RowX w 3 1 (.slice p n c) n) (hv : ∀ b, (Value.slice p n c).ownBlock = some b → col b = 6 ∧ NoT 1 I b 0)
    (m1 : w'.heap[bw]? = some (.cells #[vc, v', vg, vl] 56 (0, 0))) (m2 : MkSt w' (ext w.heap.size col 3) 3 6 1 22 mcI v' (I ++ [.slice p n c])) (hc : Chg (fun k => k = bw ∨ vi.ownBlock = some k ∨ (0 < n ∧ ∃ o, p = some ⟨k, o, none⟩)) w w')
    (m4 : ∀ g o cur, p = some ⟨g, o, none⟩ → 0 < n → w.heap[g]? = some (.cells cur 3 (0, 0)) → ∃ cur', w'.heap[g]? = some (.cells cur' 3 (0, 0)) ∧ cur'.size = cur.size) : OwnI w w' col bw vc vi vg vl I G L (.slice p n c) (.slice p n c) n 1 := by
  have hbl := (Array.getElem?_eq_some_iff.1 h.hb).1
  have hvb : ∀ b, (Value.slice p n c).ownBlock = some b → b < w.heap.size := fun b hb => by obtain ⟨xs, hr⟩ := hr; exact (hr.lt b hb).2
  refine ⟨ext w.heap.size col 3, v', [.slice p n c], h.markI (fun _ k o e => (hv k (by rw [e]; rfl)).1) m1 m2 hc, rfl, fun k hk => ext_lt hk, fun k hk => by rw [ext_ge hk]; omega, hc.mono (fun k hk e => ?_), fun e he k hk => ?_, ?_, fun b hb => ⟨?_, ?_, .inl hb⟩⟩
  · rcases e with rfl | e | ⟨_, o, e⟩
    · exact .inl h.cb
    · exact .inr (.inl (h.sI.colr k e))
    · exact .inr (.inr (by rw [e]; rfl))
  · simp only [List.mem_singleton] at he
    subst he
    exact .inl hk
  · exact RowX.mark (S := fun k => k = bw ∨ vi.ownBlock = some k) hr (hc.mono (fun k _ e => by rcases e with e | e | e; exact .inl (.inl e); exact .inl (.inr e); exact .inr e)) (fun k hk e => by
      have h1 := (hv k hk).1
      rcases e with rfl | e
      · have := h.cb; omega
      · have := h.sI.colr k e; omega) m4
  · rw [ext_lt (hvb b hb)]; exact (hv b hb).1
  · intro e he hbe
    rcases List.mem_append.1 he with he | he
    · exact ((hv b hb).2.mono (Nat.zero_le _)) e he hbe
    · simp only [List.mem_singleton] at he
      subst he
      refine ⟨p, n, c, rfl, ?_⟩
      obtain ⟨xs, hr⟩ := hr
      rcases hr.2 with ⟨_, h0⟩ | ⟨g, cap, cur, he, _⟩
      · exact .inl h0
      · simp only [Value.slice.injEq, true_and] at he
        obtain ⟨rfl, rfl⟩ := he
        have : g = b := by simpa [Value.ownBlock] using hb
        subst this
        exact .inr ⟨0, rfl, by omega⟩
theorem OwnI.next {w wr w3 w4 : World} {ob : Obj} {col : Nat → Nat} {bw : Nat} {vc vi vg vl v v' u : Value} {I G L J : List Value} {N m gA cA : Nat} {col1 : Nat → Nat} {v1 : Value} {xs news : List Value}
    (h : LSt wr col1 bw vc v1 vg vl (I ++ J) G L) (hJ : J.length = m) (hcol : ∀ k, k < w.heap.size → col1 k = col k) (hnew : ∀ k, w.heap.size ≤ k → 3 ≤ col1 k ∧ col1 k ≤ 8) (hcw : Chg (fun k => col k = 1 ∨ col k = 3 ∨ v.ownBlock = some k) w wr) (hJb : ∀ e ∈ J, ∀ k, e.ownBlock = some k → v.ownBlock = some k ∨ w.heap.size ≤ k)
    (hown : wr.ownsRow 0 3 1 u N xs) (hu : ∀ b, u.ownBlock = some b → col1 b = 6 ∧ NoT 1 (I ++ J) b (N * 1) ∧ (v.ownBlock = some b ∨ w.heap.size ≤ b))
    (hown3 : w3.ownsRow 0 3 1 (.slice (some ⟨gA, 0, none⟩) (N + 1) cA) (N + 1) (xs ++ news)) (hat : (u.ownBlock = some gA ∧ (wr.alloc ob).grownBy w3 (some gA)) ∨ (gA = wr.heap.size + 1 ∧ (wr.alloc ob).grownBy w3 none))
    (m1 : w4.heap[bw]? = some (.cells #[vc, v', vg, vl] 56 (0, 0))) (m2 : MkSt w4 (ext w3.heap.size (ext wr.heap.size col1 6) 3) 3 6 1 22 mcI v' (I ++ J ++ [.slice (some ⟨gA, N * 1, none⟩) 1 (cA - N)]))
    (hc : Chg (fun k => k = bw ∨ v1.ownBlock = some k ∨ (0 < 1 ∧ ∃ o, some (⟨gA, N * 1, none⟩ : Addr) = some ⟨k, o, none⟩)) w3 w4)
    (m4 : ∀ g o cur, some (⟨gA, N * 1, none⟩ : Addr) = some ⟨g, o, none⟩ → 0 < 1 → w3.heap[g]? = some (.cells cur 3 (0, 0)) → ∃ cur', w4.heap[g]? = some (.cells cur' 3 (0, 0)) ∧ cur'.size = cur.size) : OwnI w w4 col bw vc vi vg vl I G L v (.slice (some ⟨gA, 0, none⟩) (N + 1) cA) (N + 1) (m + 1) := by
  obtain ⟨h3, hno, hcA, _, _, hc3⟩ := h.appI hown (fun b hb => ⟨(hu b hb).1, (hu b hb).2.1⟩) hown3 hat
  have hz := hcw.size
  have hz3 := hc3.size
  have hgl : gA < w3.heap.size := (hown3.lt gA rfl).2
  have hgw : v.ownBlock = some gA ∨ w.heap.size ≤ gA := by
    rcases hat with ⟨h1, _⟩ | ⟨h1, _⟩
    · exact (hu gA h1).2.2
    · exact .inr (by omega)
  have h4 := h3.markI (fun _ k o e => by simp only [Option.some.injEq, Addr.mk.injEq] at e; rw [← e.1]; exact hcA) m1 m2 hc
  refine ⟨_, v', J ++ [.slice (some ⟨gA, N * 1, none⟩) 1 (cA - N)], by rw [← List.append_assoc]; exact h4, by simp [hJ], fun k hk => ?_, fun k hk => ?_, ?_, fun e he k hk => ?_, ?_, fun b hb => ?_⟩
  · rw [ext_lt (by omega), ext_lt (by omega)]; exact hcol k hk
  · by_cases h1 : k < w3.heap.size
    · rw [ext_lt h1]
      by_cases h2 : k < wr.heap.size
      · rw [ext_lt h2]; exact hnew k hk
      · rw [ext_ge (by omega)]; omega
    · rw [ext_ge (by omega)]; omega
  · refine (hcw.then hc3 (fun k e => ?_)).then hc (fun k e => ?_)
    · rcases (hu k e).2.2 with h1 | h1
      · exact .inl (.inr (.inr h1))
      · exact .inr h1
    · by_cases hk : k < w.heap.size
      · left
        rcases e with rfl | e | ⟨_, o, e⟩
        · exact .inl (by rw [← hcol k hk]; exact h.cb)
        · exact .inr (.inl (by rw [← hcol k hk]; exact h.sI.colr k e))
        · simp only [Option.some.injEq, Addr.mk.injEq] at e
          rw [← e.1]
          rcases hgw with h1 | h1
          · exact .inr (.inr h1)
          · omega
      · exact .inr (by omega)
  · rcases List.mem_append.1 he with he | he
    · exact hJb e he k hk
    · simp only [List.mem_singleton] at he
      subst he
      have : gA = k := by simpa [Value.ownBlock] using hk
      rw [← this]; exact hgw
  · refine RowX.mark (p := some ⟨gA, 0, none⟩) (S := fun k => k = bw ∨ v1.ownBlock = some k) ⟨_, hown3⟩ (hc.mono (fun k _ e => ?_)) (fun k hk e => ?_) (fun g o cur e _ hg => ?_)
    · rcases e with e | e | ⟨_, o, e⟩
      · exact .inl (.inl e)
      · exact .inl (.inr e)
      · simp only [Option.some.injEq, Addr.mk.injEq] at e
        exact .inr ⟨by omega, 0, by rw [e.1]⟩
    · have hk' : gA = k := by simpa [Value.ownBlock] using hk
      rcases e with e | e
      · have := h3.cb; rw [← e, ← hk', hcA] at this; cases this
      · have := h3.sI.colr k e; rw [← hk', hcA] at this; cases this
    · simp only [Option.some.injEq, Addr.mk.injEq] at e
      exact m4 g (N * 1) cur (by rw [e.1]) (by omega) hg
  · have hb' : gA = b := by simpa [Value.ownBlock] using hb
    subst hb'
    refine ⟨by rw [ext_lt hgl]; exact hcA, fun e he hbe => ?_, hgw⟩
    rw [← List.append_assoc] at he
    rcases List.mem_append.1 he with he | he
    · exact (hno.mono (by omega)) e he hbe
    · simp only [List.mem_singleton] at he
      subst he
      exact ⟨_, _, _, rfl, .inr ⟨N * 1, rfl, by rw [← Nat.add_mul]; exact Nat.le_refl _⟩⟩

theorem LSt.appG {w w3 : World} {ob : Obj} {col : Nat → Nat} {bw : Nat} {vc vi vg vl : Value} {I G L : List Value} {n gA cA : Nat} {v : Value} {xs news : List Value} (h : LSt w col bw vc vi vg vl I G L)
    (hown : w.ownsRow 0 84 8 v n xs) (hv : ∀ b, v.ownBlock = some b → col b = 7 ∧ NoT 8 G b (n * 8)) (hown3 : w3.ownsRow 0 84 8 (.slice (some ⟨gA, 0, none⟩) (n + 1) cA) (n + 1) (xs ++ news))
    (hat : (v.ownBlock = some gA ∧ (w.alloc ob).grownBy w3 (some gA)) ∨ (gA = w.heap.size + 1 ∧ (w.alloc ob).grownBy w3 none)) :
    LSt w3 (ext w.heap.size col 7) bw vc vi vg vl I G L ∧ NoT 8 G gA (n * 8) ∧ ext w.heap.size col 7 gA = 7 ∧ (∃ cur, w3.heap[gA]? = some (.cells cur 84 (0, 0)) ∧ n * 8 + 1 * 8 ≤ cur.size) ∧ n + 1 ≤ cA ∧ Chg (fun k => v.ownBlock = some k) w w3 := by
  have hBa : Below w.heap.size w (w.alloc ob) := (Below.refl _ w).alloc (Nat.le_refl _) _
  have hcw : Chg (fun k => v.ownBlock = some k) w w3 := (Chg.of_below _ hBa).trans (after_app_chg hat)
  have hbl := (Array.getElem?_eq_some_iff.1 h.hb).1
  refine ⟨⟨(hcw.block bw hbl (fun e => by have := (hv bw e).1; have := h.cb; omega)).trans h.hb, by rw [ext_lt hbl]; exact h.cb, h.sI.kept hcw (fun b hl hb e => by have := (hv b e).1; omega) (fun b hb => ext_lt hb), h.sG.app (by decide) (fun k => rfl) hown hv hown3 hat, h.sL.kept hcw (fun b hl hb e => by have := (hv b e).1; omega) (fun b hb => ext_lt hb)⟩, ?_, ?_, ?_, ?_, hcw⟩
  · rcases hat with ⟨h1, _⟩ | ⟨h1, _⟩
    · exact (hv gA h1).2
    · exact h.sG.noT (by omega) _
  · rcases hat with ⟨h1, _⟩ | ⟨h1, _⟩
    · rw [ext_lt (hown.lt gA h1).2]; exact (hv gA h1).1
    · exact ext_ge (by omega)
  · rcases hown3.2 with ⟨h', _⟩ | ⟨g, cap, cur, he, _, hg, hle, _, hs, _⟩
    · cases h'
    · simp only [Value.slice.injEq, Option.some.injEq, Addr.mk.injEq, true_and, and_true] at he
      obtain ⟨rfl, rfl⟩ := he
      exact ⟨cur, hg, by rw [hs, ← Nat.add_mul]; exact Nat.mul_le_mul_right _ hle⟩
  · rcases hown3.2 with ⟨h', _⟩ | ⟨g, cap, cur, he, _, hg, hle, _, hs, _⟩
    · cases h'
    · simp only [Value.slice.injEq, Option.some.injEq, Addr.mk.injEq, true_and, and_true] at he
      obtain ⟨rfl, rfl⟩ := he
      exact hle
theorem LSt.markG {w w' : World} {col : Nat → Nat} {bw : Nat} {vc vi vg vl v' : Value} {I G L : List Value} {p : Option Addr} {n c : Nat} (h : LSt w col bw vc vi vg vl I G L)
    (hp : 0 < n → ∀ k o, p = some ⟨k, o, none⟩ → col k = 7) (m1 : w'.heap[bw]? = some (.cells #[vc, vi, v', vl] 56 (0, 0))) (m2 : MkSt w' (ext w.heap.size col 4) 4 7 8 72 mcG v' (G ++ [.slice p n c])) (hc : Chg (fun k => k = bw ∨ vg.ownBlock = some k ∨ (0 < n ∧ ∃ o, p = some ⟨k, o, none⟩)) w w') :
    LSt w' (ext w.heap.size col 4) bw vc vi v' vl I (G ++ [.slice p n c]) L := by
  have hbl := (Array.getElem?_eq_some_iff.1 h.hb).1
  have hS : ∀ (b : Nat) (_ : b < w.heap.size) {q1 q2 : Nat} (_ : col b = q1 ∨ col b = q2) (_ : b = bw ∨ vg.ownBlock = some b ∨ (0 < n ∧ ∃ o, p = some ⟨b, o, none⟩)), q1 ≠ 1 → q2 ≠ 1 → q1 ≠ 4 → q2 ≠ 4 → q1 ≠ 7 → q2 ≠ 7 → False := by
    intro b hb q1 q2 hq hS h1 h2 h3 h4 h5 h6
    have hcol : col b = 1 ∨ col b = 4 ∨ col b = 7 := by
      rcases hS with rfl | hS | ⟨h0, o, hS⟩
      · exact .inl h.cb
      · exact .inr (.inl (h.sG.colr b hS))
      · exact .inr (.inr (hp h0 b o hS))
    omega
  exact ⟨m1, by rw [ext_lt hbl]; exact h.cb, h.sI.kept hc (fun b hl hb e => hS b hl hb e (by decide) (by decide) (by decide) (by decide) (by decide) (by decide)) (fun b hb => ext_lt hb), m2, h.sL.kept hc (fun b hl hb e => hS b hl hb e (by decide) (by decide) (by decide) (by decide) (by decide) (by decide)) (fun b hb => ext_lt hb)⟩

/-- Behind own: five lists more, of blocks of the list's own or new ones; nothing else has turned. -/
def OwnedG (w w' : World) (col : Nat → Nat) (bw : Nat) (vc vi _vg vl : Value) (I G L : List Value) (v : Value) (m : Nat) : Prop :=
  ∃ (col' : Nat → Nat) (v' : Value) (J : List Value), LSt w' col' bw vc vi v' vl I (G ++ J) L ∧ J.length = m ∧ (∀ k, k < w.heap.size → col' k = col k) ∧ (∀ k, w.heap.size ≤ k → 3 ≤ col' k ∧ col' k ≤ 8) ∧ Chg (fun k => col k = 1 ∨ col k = 4 ∨ v.ownBlock = some k) w w' ∧ (∀ e ∈ J, ∀ k, e.ownBlock = some k → v.ownBlock = some k ∨ w.heap.size ≤ k)
/-- The list as it is appended to. -/
def OwnG (w w' : World) (col : Nat → Nat) (bw : Nat) (vc vi _vg vl : Value) (I G L : List Value) (v : Value) (u : Value) (N m : Nat) : Prop :=
  ∃ (col' : Nat → Nat) (v' : Value) (J : List Value), LSt w' col' bw vc vi v' vl I (G ++ J) L ∧ J.length = m ∧ (∀ k, k < w.heap.size → col' k = col k) ∧ (∀ k, w.heap.size ≤ k → 3 ≤ col' k ∧ col' k ≤ 8) ∧ Chg (fun k => col k = 1 ∨ col k = 4 ∨ v.ownBlock = some k) w w' ∧ (∀ e ∈ J, ∀ k, e.ownBlock = some k → v.ownBlock = some k ∨ w.heap.size ≤ k) ∧
    RowX w' 84 8 u N ∧ ∀ b, u.ownBlock = some b → col' b = 7 ∧ NoT 8 (G ++ J) b (N * 8) ∧ (v.ownBlock = some b ∨ w.heap.size ≤ b)
theorem OwnG.begin {w w' : World} {col : Nat → Nat} {bw : Nat} {vc vi vg vl v' : Value} {I G L : List Value} {p : Option Addr} {n c : Nat} (h : LSt w col bw vc vi vg vl I G L) (hr : RowX w 84 8 (.slice p n c) n) (hv : ∀ b, (Value.slice p n c).ownBlock = some b → col b = 7 ∧ NoT 8 G b 0)
    (m1 : w'.heap[bw]? = some (.cells #[vc, vi, v', vl] 56 (0, 0))) (m2 : MkSt w' (ext w.heap.size col 4) 4 7 8 72 mcG v' (G ++ [.slice p n c])) (hc : Chg (fun k => k = bw ∨ vg.ownBlock = some k ∨ (0 < n ∧ ∃ o, p = some ⟨k, o, none⟩)) w w')
    (m4 : ∀ g o cur, p = some ⟨g, o, none⟩ → 0 < n → w.heap[g]? = some (.cells cur 84 (0, 0)) → ∃ cur', w'.heap[g]? = some (.cells cur' 84 (0, 0)) ∧ cur'.size = cur.size) : OwnG w w' col bw vc vi vg vl I G L (.slice p n c) (.slice p n c) n 1 := by
  have hbl := (Array.getElem?_eq_some_iff.1 h.hb).1
  have hvb : ∀ b, (Value.slice p n c).ownBlock = some b → b < w.heap.size := fun b hb => by obtain ⟨xs, hr⟩ := hr; exact (hr.lt b hb).2
  refine ⟨ext w.heap.size col 4, v', [.slice p n c], h.markG (fun _ k o e => (hv k (by rw [e]; rfl)).1) m1 m2 hc, rfl, fun k hk => ext_lt hk, fun k hk => by rw [ext_ge hk]; omega, hc.mono (fun k hk e => ?_), fun e he k hk => ?_, ?_, fun b hb => ⟨?_, ?_, .inl hb⟩⟩
  · rcases e with rfl | e | ⟨_, o, e⟩
    · exact .inl h.cb
    · exact .inr (.inl (h.sG.colr k e))
    · exact .inr (.inr (by rw [e]; rfl))
  · simp only [List.mem_singleton] at he
    subst he
    exact .inl hk
  · exact RowX.mark (S := fun k => k = bw ∨ vg.ownBlock = some k) hr (hc.mono (fun k _ e => by rcases e with e | e | e; exact .inl (.inl e); exact .inl (.inr e); exact .inr e)) (fun k hk e => by
      have h1 := (hv k hk).1
      rcases e with rfl | e
      · have := h.cb; omega
      · have := h.sG.colr k e; omega) m4
  · rw [ext_lt (hvb b hb)]; exact (hv b hb).1
  · intro e he hbe
    rcases List.mem_append.1 he with he | he
    · exact ((hv b hb).2.mono (Nat.zero_le _)) e he hbe
    · simp only [List.mem_singleton] at he
      subst he
      refine ⟨p, n, c, rfl, ?_⟩
      obtain ⟨xs, hr⟩ := hr
      rcases hr.2 with ⟨_, h0⟩ | ⟨g, cap, cur, he, _⟩
      · exact .inl h0
      · simp only [Value.slice.injEq, true_and] at he
        obtain ⟨rfl, rfl⟩ := he
        have : g = b := by simpa [Value.ownBlock] using hb
        subst this
        exact .inr ⟨0, rfl, by omega⟩
theorem OwnG.next {w wr w3 w4 : World} {ob : Obj} {col : Nat → Nat} {bw : Nat} {vc vi vg vl v v' u : Value} {I G L J : List Value} {N m gA cA : Nat} {col1 : Nat → Nat} {v1 : Value} {xs news : List Value}
    (h : LSt wr col1 bw vc vi v1 vl I (G ++ J) L) (hJ : J.length = m) (hcol : ∀ k, k < w.heap.size → col1 k = col k) (hnew : ∀ k, w.heap.size ≤ k → 3 ≤ col1 k ∧ col1 k ≤ 8) (hcw : Chg (fun k => col k = 1 ∨ col k = 4 ∨ v.ownBlock = some k) w wr) (hJb : ∀ e ∈ J, ∀ k, e.ownBlock = some k → v.ownBlock = some k ∨ w.heap.size ≤ k)
    (hown : wr.ownsRow 0 84 8 u N xs) (hu : ∀ b, u.ownBlock = some b → col1 b = 7 ∧ NoT 8 (G ++ J) b (N * 8) ∧ (v.ownBlock = some b ∨ w.heap.size ≤ b))
    (hown3 : w3.ownsRow 0 84 8 (.slice (some ⟨gA, 0, none⟩) (N + 1) cA) (N + 1) (xs ++ news)) (hat : (u.ownBlock = some gA ∧ (wr.alloc ob).grownBy w3 (some gA)) ∨ (gA = wr.heap.size + 1 ∧ (wr.alloc ob).grownBy w3 none))
    (m1 : w4.heap[bw]? = some (.cells #[vc, vi, v', vl] 56 (0, 0))) (m2 : MkSt w4 (ext w3.heap.size (ext wr.heap.size col1 7) 4) 4 7 8 72 mcG v' (G ++ J ++ [.slice (some ⟨gA, N * 8, none⟩) 1 (cA - N)]))
    (hc : Chg (fun k => k = bw ∨ v1.ownBlock = some k ∨ (0 < 1 ∧ ∃ o, some (⟨gA, N * 8, none⟩ : Addr) = some ⟨k, o, none⟩)) w3 w4)
    (m4 : ∀ g o cur, some (⟨gA, N * 8, none⟩ : Addr) = some ⟨g, o, none⟩ → 0 < 1 → w3.heap[g]? = some (.cells cur 84 (0, 0)) → ∃ cur', w4.heap[g]? = some (.cells cur' 84 (0, 0)) ∧ cur'.size = cur.size) : OwnG w w4 col bw vc vi vg vl I G L v (.slice (some ⟨gA, 0, none⟩) (N + 1) cA) (N + 1) (m + 1) := by
  obtain ⟨h3, hno, hcA, _, _, hc3⟩ := h.appG hown (fun b hb => ⟨(hu b hb).1, (hu b hb).2.1⟩) hown3 hat
  have hz := hcw.size
  have hz3 := hc3.size
  have hgl : gA < w3.heap.size := (hown3.lt gA rfl).2
  have hgw : v.ownBlock = some gA ∨ w.heap.size ≤ gA := by
    rcases hat with ⟨h1, _⟩ | ⟨h1, _⟩
    · exact (hu gA h1).2.2
    · exact .inr (by omega)
  have h4 := h3.markG (fun _ k o e => by simp only [Option.some.injEq, Addr.mk.injEq] at e; rw [← e.1]; exact hcA) m1 m2 hc
  refine ⟨_, v', J ++ [.slice (some ⟨gA, N * 8, none⟩) 1 (cA - N)], by rw [← List.append_assoc]; exact h4, by simp [hJ], fun k hk => ?_, fun k hk => ?_, ?_, fun e he k hk => ?_, ?_, fun b hb => ?_⟩
  · rw [ext_lt (by omega), ext_lt (by omega)]; exact hcol k hk
  · by_cases h1 : k < w3.heap.size
    · rw [ext_lt h1]
      by_cases h2 : k < wr.heap.size
      · rw [ext_lt h2]; exact hnew k hk
      · rw [ext_ge (by omega)]; omega
    · rw [ext_ge (by omega)]; omega
  · refine (hcw.then hc3 (fun k e => ?_)).then hc (fun k e => ?_)
    · rcases (hu k e).2.2 with h1 | h1
      · exact .inl (.inr (.inr h1))
      · exact .inr h1
    · by_cases hk : k < w.heap.size
      · left
        rcases e with rfl | e | ⟨_, o, e⟩
        · exact .inl (by rw [← hcol k hk]; exact h.cb)
        · exact .inr (.inl (by rw [← hcol k hk]; exact h.sG.colr k e))
        · simp only [Option.some.injEq, Addr.mk.injEq] at e
          rw [← e.1]
          rcases hgw with h1 | h1
          · exact .inr (.inr h1)
          · omega
      · exact .inr (by omega)
  · rcases List.mem_append.1 he with he | he
    · exact hJb e he k hk
    · simp only [List.mem_singleton] at he
      subst he
      have : gA = k := by simpa [Value.ownBlock] using hk
      rw [← this]; exact hgw
  · refine RowX.mark (p := some ⟨gA, 0, none⟩) (S := fun k => k = bw ∨ v1.ownBlock = some k) ⟨_, hown3⟩ (hc.mono (fun k _ e => ?_)) (fun k hk e => ?_) (fun g o cur e _ hg => ?_)
    · rcases e with e | e | ⟨_, o, e⟩
      · exact .inl (.inl e)
      · exact .inl (.inr e)
      · simp only [Option.some.injEq, Addr.mk.injEq] at e
        exact .inr ⟨by omega, 0, by rw [e.1]⟩
    · have hk' : gA = k := by simpa [Value.ownBlock] using hk
      rcases e with e | e
      · have := h3.cb; rw [← e, ← hk', hcA] at this; cases this
      · have := h3.sG.colr k e; rw [← hk', hcA] at this; cases this
    · simp only [Option.some.injEq, Addr.mk.injEq] at e
      exact m4 g (N * 8) cur (by rw [e.1]) (by omega) hg
  · have hb' : gA = b := by simpa [Value.ownBlock] using hb
    subst hb'
    refine ⟨by rw [ext_lt hgl]; exact hcA, fun e he hbe => ?_, hgw⟩
    rw [← List.append_assoc] at he
    rcases List.mem_append.1 he with he | he
    · exact (hno.mono (by omega)) e he hbe
    · simp only [List.mem_singleton] at he
      subst he
      exact ⟨_, _, _, rfl, .inr ⟨N * 8, rfl, by rw [← Nat.add_mul]; exact Nat.le_refl _⟩⟩

theorem LSt.appL {w w3 : World} {ob : Obj} {col : Nat → Nat} {bw : Nat} {vc vi vg vl : Value} {I G L : List Value} {n gA cA : Nat} {v : Value} {xs news : List Value} (h : LSt w col bw vc vi vg vl I G L)
    (hown : w.ownsRow 0 121 3 v n xs) (hv : ∀ b, v.ownBlock = some b → col b = 8 ∧ NoT 3 L b (n * 3)) (hown3 : w3.ownsRow 0 121 3 (.slice (some ⟨gA, 0, none⟩) (n + 1) cA) (n + 1) (xs ++ news))
    (hat : (v.ownBlock = some gA ∧ (w.alloc ob).grownBy w3 (some gA)) ∨ (gA = w.heap.size + 1 ∧ (w.alloc ob).grownBy w3 none)) :
    LSt w3 (ext w.heap.size col 8) bw vc vi vg vl I G L ∧ NoT 3 L gA (n * 3) ∧ ext w.heap.size col 8 gA = 8 ∧ (∃ cur, w3.heap[gA]? = some (.cells cur 121 (0, 0)) ∧ n * 3 + 1 * 3 ≤ cur.size) ∧ n + 1 ≤ cA ∧ Chg (fun k => v.ownBlock = some k) w w3 := by
  have hBa : Below w.heap.size w (w.alloc ob) := (Below.refl _ w).alloc (Nat.le_refl _) _
  have hcw : Chg (fun k => v.ownBlock = some k) w w3 := (Chg.of_below _ hBa).trans (after_app_chg hat)
  have hbl := (Array.getElem?_eq_some_iff.1 h.hb).1
  refine ⟨⟨(hcw.block bw hbl (fun e => by have := (hv bw e).1; have := h.cb; omega)).trans h.hb, by rw [ext_lt hbl]; exact h.cb, h.sI.kept hcw (fun b hl hb e => by have := (hv b e).1; omega) (fun b hb => ext_lt hb), h.sG.kept hcw (fun b hl hb e => by have := (hv b e).1; omega) (fun b hb => ext_lt hb), h.sL.app (by decide) (fun k => rfl) hown hv hown3 hat⟩, ?_, ?_, ?_, ?_, hcw⟩
  · rcases hat with ⟨h1, _⟩ | ⟨h1, _⟩
    · exact (hv gA h1).2
    · exact h.sL.noT (by omega) _
  · rcases hat with ⟨h1, _⟩ | ⟨h1, _⟩
    · rw [ext_lt (hown.lt gA h1).2]; exact (hv gA h1).1
    · exact ext_ge (by omega)
  · rcases hown3.2 with ⟨h', _⟩ | ⟨g, cap, cur, he, _, hg, hle, _, hs, _⟩
    · cases h'
    · simp only [Value.slice.injEq, Option.some.injEq, Addr.mk.injEq, true_and, and_true] at he
      obtain ⟨rfl, rfl⟩ := he
      exact ⟨cur, hg, by rw [hs, ← Nat.add_mul]; exact Nat.mul_le_mul_right _ hle⟩
  · rcases hown3.2 with ⟨h', _⟩ | ⟨g, cap, cur, he, _, hg, hle, _, hs, _⟩
    · cases h'
    · simp only [Value.slice.injEq, Option.some.injEq, Addr.mk.injEq, true_and, and_true] at he
      obtain ⟨rfl, rfl⟩ := he
      exact hle
theorem LSt.markL {w w' : World} {col : Nat → Nat} {bw : Nat} {vc vi vg vl v' : Value} {I G L : List Value} {p : Option Addr} {n c : Nat} (h : LSt w col bw vc vi vg vl I G L)
    (hp : 0 < n → ∀ k o, p = some ⟨k, o, none⟩ → col k = 8) (m1 : w'.heap[bw]? = some (.cells #[vc, vi, vg, v'] 56 (0, 0))) (m2 : MkSt w' (ext w.heap.size col 5) 5 8 3 69 mcL v' (L ++ [.slice p n c])) (hc : Chg (fun k => k = bw ∨ vl.ownBlock = some k ∨ (0 < n ∧ ∃ o, p = some ⟨k, o, none⟩)) w w') :
    LSt w' (ext w.heap.size col 5) bw vc vi vg v' I G (L ++ [.slice p n c]) := by
  have hbl := (Array.getElem?_eq_some_iff.1 h.hb).1
  have hS : ∀ (b : Nat) (_ : b < w.heap.size) {q1 q2 : Nat} (_ : col b = q1 ∨ col b = q2) (_ : b = bw ∨ vl.ownBlock = some b ∨ (0 < n ∧ ∃ o, p = some ⟨b, o, none⟩)), q1 ≠ 1 → q2 ≠ 1 → q1 ≠ 5 → q2 ≠ 5 → q1 ≠ 8 → q2 ≠ 8 → False := by
    intro b hb q1 q2 hq hS h1 h2 h3 h4 h5 h6
    have hcol : col b = 1 ∨ col b = 5 ∨ col b = 8 := by
      rcases hS with rfl | hS | ⟨h0, o, hS⟩
      · exact .inl h.cb
      · exact .inr (.inl (h.sL.colr b hS))
      · exact .inr (.inr (hp h0 b o hS))
    omega
  exact ⟨m1, by rw [ext_lt hbl]; exact h.cb, h.sI.kept hc (fun b hl hb e => hS b hl hb e (by decide) (by decide) (by decide) (by decide) (by decide) (by decide)) (fun b hb => ext_lt hb), h.sG.kept hc (fun b hl hb e => hS b hl hb e (by decide) (by decide) (by decide) (by decide) (by decide) (by decide)) (fun b hb => ext_lt hb), m2⟩

/-- Behind own: five lists more, of blocks of the list's own or new ones; nothing else has turned. -/
def OwnedL (w w' : World) (col : Nat → Nat) (bw : Nat) (vc vi vg _vl : Value) (I G L : List Value) (v : Value) (m : Nat) : Prop :=
  ∃ (col' : Nat → Nat) (v' : Value) (J : List Value), LSt w' col' bw vc vi vg v' I G (L ++ J) ∧ J.length = m ∧ (∀ k, k < w.heap.size → col' k = col k) ∧ (∀ k, w.heap.size ≤ k → 3 ≤ col' k ∧ col' k ≤ 8) ∧ Chg (fun k => col k = 1 ∨ col k = 5 ∨ v.ownBlock = some k) w w' ∧ (∀ e ∈ J, ∀ k, e.ownBlock = some k → v.ownBlock = some k ∨ w.heap.size ≤ k)
/-- The list as it is appended to. -/
def OwnL (w w' : World) (col : Nat → Nat) (bw : Nat) (vc vi vg _vl : Value) (I G L : List Value) (v : Value) (u : Value) (N m : Nat) : Prop :=
  ∃ (col' : Nat → Nat) (v' : Value) (J : List Value), LSt w' col' bw vc vi vg v' I G (L ++ J) ∧ J.length = m ∧ (∀ k, k < w.heap.size → col' k = col k) ∧ (∀ k, w.heap.size ≤ k → 3 ≤ col' k ∧ col' k ≤ 8) ∧ Chg (fun k => col k = 1 ∨ col k = 5 ∨ v.ownBlock = some k) w w' ∧ (∀ e ∈ J, ∀ k, e.ownBlock = some k → v.ownBlock = some k ∨ w.heap.size ≤ k) ∧
    RowX w' 121 3 u N ∧ ∀ b, u.ownBlock = some b → col' b = 8 ∧ NoT 3 (L ++ J) b (N * 3) ∧ (v.ownBlock = some b ∨ w.heap.size ≤ b)
theorem OwnL.begin {w w' : World} {col : Nat → Nat} {bw : Nat} {vc vi vg vl v' : Value} {I G L : List Value} {p : Option Addr} {n c : Nat} (h : LSt w col bw vc vi vg vl I G L) (hr : RowX w 121 3 (.slice p n c) n) (hv : ∀ b, (Value.slice p n c).ownBlock = some b → col b = 8 ∧ NoT 3 L b 0)
    (m1 : w'.heap[bw]? = some (.cells #[vc, vi, vg, v'] 56 (0, 0))) (m2 : MkSt w' (ext w.heap.size col 5) 5 8 3 69 mcL v' (L ++ [.slice p n c])) (hc : Chg (fun k => k = bw ∨ vl.ownBlock = some k ∨ (0 < n ∧ ∃ o, p = some ⟨k, o, none⟩)) w w')
    (m4 : ∀ g o cur, p = some ⟨g, o, none⟩ → 0 < n → w.heap[g]? = some (.cells cur 121 (0, 0)) → ∃ cur', w'.heap[g]? = some (.cells cur' 121 (0, 0)) ∧ cur'.size = cur.size) : OwnL w w' col bw vc vi vg vl I G L (.slice p n c) (.slice p n c) n 1 := by
  have hbl := (Array.getElem?_eq_some_iff.1 h.hb).1
  have hvb : ∀ b, (Value.slice p n c).ownBlock = some b → b < w.heap.size := fun b hb => by obtain ⟨xs, hr⟩ := hr; exact (hr.lt b hb).2
  refine ⟨ext w.heap.size col 5, v', [.slice p n c], h.markL (fun _ k o e => (hv k (by rw [e]; rfl)).1) m1 m2 hc, rfl, fun k hk => ext_lt hk, fun k hk => by rw [ext_ge hk]; omega, hc.mono (fun k hk e => ?_), fun e he k hk => ?_, ?_, fun b hb => ⟨?_, ?_, .inl hb⟩⟩
  · rcases e with rfl | e | ⟨_, o, e⟩
    · exact .inl h.cb
    · exact .inr (.inl (h.sL.colr k e))
    · exact .inr (.inr (by rw [e]; rfl))
  · simp only [List.mem_singleton] at he
    subst he
    exact .inl hk
  · exact RowX.mark (S := fun k => k = bw ∨ vl.ownBlock = some k) hr (hc.mono (fun k _ e => by rcases e with e | e | e; exact .inl (.inl e); exact .inl (.inr e); exact .inr e)) (fun k hk e => by
      have h1 := (hv k hk).1
      rcases e with rfl | e
      · have := h.cb; omega
      · have := h.sL.colr k e; omega) m4
  · rw [ext_lt (hvb b hb)]; exact (hv b hb).1
  · intro e he hbe
    rcases List.mem_append.1 he with he | he
    · exact ((hv b hb).2.mono (Nat.zero_le _)) e he hbe
    · simp only [List.mem_singleton] at he
      subst he
      refine ⟨p, n, c, rfl, ?_⟩
      obtain ⟨xs, hr⟩ := hr
      rcases hr.2 with ⟨_, h0⟩ | ⟨g, cap, cur, he, _⟩
      · exact .inl h0
      · simp only [Value.slice.injEq, true_and] at he
        obtain ⟨rfl, rfl⟩ := he
        have : g = b := by simpa [Value.ownBlock] using hb
        subst this
        exact .inr ⟨0, rfl, by omega⟩
theorem OwnL.next {w wr w3 w4 : World} {ob : Obj} {col : Nat → Nat} {bw : Nat} {vc vi vg vl v v' u : Value} {I G L J : List Value} {N m gA cA : Nat} {col1 : Nat → Nat} {v1 : Value} {xs news : List Value}
    (h : LSt wr col1 bw vc vi vg v1 I G (L ++ J)) (hJ : J.length = m) (hcol : ∀ k, k < w.heap.size → col1 k = col k) (hnew : ∀ k, w.heap.size ≤ k → 3 ≤ col1 k ∧ col1 k ≤ 8) (hcw : Chg (fun k => col k = 1 ∨ col k = 5 ∨ v.ownBlock = some k) w wr) (hJb : ∀ e ∈ J, ∀ k, e.ownBlock = some k → v.ownBlock = some k ∨ w.heap.size ≤ k)
    (hown : wr.ownsRow 0 121 3 u N xs) (hu : ∀ b, u.ownBlock = some b → col1 b = 8 ∧ NoT 3 (L ++ J) b (N * 3) ∧ (v.ownBlock = some b ∨ w.heap.size ≤ b))
    (hown3 : w3.ownsRow 0 121 3 (.slice (some ⟨gA, 0, none⟩) (N + 1) cA) (N + 1) (xs ++ news)) (hat : (u.ownBlock = some gA ∧ (wr.alloc ob).grownBy w3 (some gA)) ∨ (gA = wr.heap.size + 1 ∧ (wr.alloc ob).grownBy w3 none))
    (m1 : w4.heap[bw]? = some (.cells #[vc, vi, vg, v'] 56 (0, 0))) (m2 : MkSt w4 (ext w3.heap.size (ext wr.heap.size col1 8) 5) 5 8 3 69 mcL v' (L ++ J ++ [.slice (some ⟨gA, N * 3, none⟩) 1 (cA - N)]))
    (hc : Chg (fun k => k = bw ∨ v1.ownBlock = some k ∨ (0 < 1 ∧ ∃ o, some (⟨gA, N * 3, none⟩ : Addr) = some ⟨k, o, none⟩)) w3 w4)
    (m4 : ∀ g o cur, some (⟨gA, N * 3, none⟩ : Addr) = some ⟨g, o, none⟩ → 0 < 1 → w3.heap[g]? = some (.cells cur 121 (0, 0)) → ∃ cur', w4.heap[g]? = some (.cells cur' 121 (0, 0)) ∧ cur'.size = cur.size) : OwnL w w4 col bw vc vi vg vl I G L v (.slice (some ⟨gA, 0, none⟩) (N + 1) cA) (N + 1) (m + 1) := by
  obtain ⟨h3, hno, hcA, _, _, hc3⟩ := h.appL hown (fun b hb => ⟨(hu b hb).1, (hu b hb).2.1⟩) hown3 hat
  have hz := hcw.size
  have hz3 := hc3.size
  have hgl : gA < w3.heap.size := (hown3.lt gA rfl).2
  have hgw : v.ownBlock = some gA ∨ w.heap.size ≤ gA := by
    rcases hat with ⟨h1, _⟩ | ⟨h1, _⟩
    · exact (hu gA h1).2.2
    · exact .inr (by omega)
  have h4 := h3.markL (fun _ k o e => by simp only [Option.some.injEq, Addr.mk.injEq] at e; rw [← e.1]; exact hcA) m1 m2 hc
  refine ⟨_, v', J ++ [.slice (some ⟨gA, N * 3, none⟩) 1 (cA - N)], by rw [← List.append_assoc]; exact h4, by simp [hJ], fun k hk => ?_, fun k hk => ?_, ?_, fun e he k hk => ?_, ?_, fun b hb => ?_⟩
  · rw [ext_lt (by omega), ext_lt (by omega)]; exact hcol k hk
  · by_cases h1 : k < w3.heap.size
    · rw [ext_lt h1]
      by_cases h2 : k < wr.heap.size
      · rw [ext_lt h2]; exact hnew k hk
      · rw [ext_ge (by omega)]; omega
    · rw [ext_ge (by omega)]; omega
  · refine (hcw.then hc3 (fun k e => ?_)).then hc (fun k e => ?_)
    · rcases (hu k e).2.2 with h1 | h1
      · exact .inl (.inr (.inr h1))
      · exact .inr h1
    · by_cases hk : k < w.heap.size
      · left
        rcases e with rfl | e | ⟨_, o, e⟩
        · exact .inl (by rw [← hcol k hk]; exact h.cb)
        · exact .inr (.inl (by rw [← hcol k hk]; exact h.sL.colr k e))
        · simp only [Option.some.injEq, Addr.mk.injEq] at e
          rw [← e.1]
          rcases hgw with h1 | h1
          · exact .inr (.inr h1)
          · omega
      · exact .inr (by omega)
  · rcases List.mem_append.1 he with he | he
    · exact hJb e he k hk
    · simp only [List.mem_singleton] at he
      subst he
      have : gA = k := by simpa [Value.ownBlock] using hk
      rw [← this]; exact hgw
  · refine RowX.mark (p := some ⟨gA, 0, none⟩) (S := fun k => k = bw ∨ v1.ownBlock = some k) ⟨_, hown3⟩ (hc.mono (fun k _ e => ?_)) (fun k hk e => ?_) (fun g o cur e _ hg => ?_)
    · rcases e with e | e | ⟨_, o, e⟩
      · exact .inl (.inl e)
      · exact .inl (.inr e)
      · simp only [Option.some.injEq, Addr.mk.injEq] at e
        exact .inr ⟨by omega, 0, by rw [e.1]⟩
    · have hk' : gA = k := by simpa [Value.ownBlock] using hk
      rcases e with e | e
      · have := h3.cb; rw [← e, ← hk', hcA] at this; cases this
      · have := h3.sL.colr k e; rw [← hk', hcA] at this; cases this
    · simp only [Option.some.injEq, Addr.mk.injEq] at e
      exact m4 g (N * 3) cur (by rw [e.1]) (by omega) hg
  · have hb' : gA = b := by simpa [Value.ownBlock] using hb
    subst hb'
    refine ⟨by rw [ext_lt hgl]; exact hcA, fun e he hbe => ?_, hgw⟩
    rw [← List.append_assoc] at he
    rcases List.mem_append.1 he with he | he
    · exact (hno.mono (by omega)) e he hbe
    · simp only [List.mem_singleton] at he
      subst he
      exact ⟨_, _, _, rfl, .inr ⟨N * 3, rfl, by rw [← Nat.add_mul]; exact Nat.le_refl _⟩⟩
end Go.Proofs.YtgebcnnenhgkcaaGreat
/- The caller's lists: own, ownGuilt. -/
namespace Go.Proofs.YtgebcnnenhgkcaaGreat
open Go.RowKit Go.Shelf

set_option maxRecDepth 100000 in
set_option maxHeartbeats 4000000 in
theorem own_at (w : World) (col : Nat → Nat) (bw : Nat) (vc vi vg vl : Value) (I G L : List Value) (v : Value) (n : Nat) (hS : LSt w col bw vc vi vg vl I G L) (hr : RowX w 3 1 v n) (hv : ∀ b, v.ownBlock = some b → col b = 6 ∧ NoT 1 I b 0) (hn : n ≤ 100000) (hI : I.length ≤ 999999990) :
    Calls Tryz.prog 53 #[.pointer (some ⟨bw, 0, none⟩), v] w fun e w' => e = .returned (.tuple #[]) ∧ OwnedI w w' col bw vc vi vg vl I G L v 5 := by
  obtain ⟨i0, hi, hz0, hz1, hz2⟩ := info_parts info_int
  obtain ⟨p, c, hvs⟩ : ∃ p c, v = .slice p n c := by obtain ⟨xs, h⟩ := hr; exact row_slice h
  subst hvs
  have hm0 := mark_at w col bw vc vi vg vl I p n c hS.hb hS.cb hS.sI (by
    obtain ⟨xs, hr⟩ := hr
    rcases hr.2 with ⟨_, h0⟩ | ⟨g, cap, cur, he, _, hg, hle, _, hsz, _⟩
    · exact .inl h0
    · simp only [Value.slice.injEq, true_and] at he
      obtain ⟨rfl, rfl⟩ := he
      exact .inr ⟨g, 0, cur, rfl, (hv g rfl).1, hg, by rw [hsz, Nat.zero_add]; exact Nat.mul_le_mul_right _ hle, (hv g rfl).2⟩) (by omega) (by omega)
  go_enter Tryz.func53, Tryz.ntmps53
  go_wp2_with fail
  refine hm0.mono ?_
  rintro e w1 ⟨rfl, v', m1, m2, m3, m4⟩
  have hO : OwnI w w1 col bw vc vi vg vl I G L (.slice p n c) (.slice p n c) (n + 0) (0 + 1) := OwnI.begin hS hr hv m1 m2 m3 m4
  clear m1 m2 m3 m4 hm0 hr hv hS
  go_wp2_with fail
  go_loopw [1, 4] (fun u ii wr => ∃ k : Nat, k ≤ 4 ∧ ii = .int .i64 k ∧ OwnI w wr col bw vc vi vg vl I G L (.slice p n c) u (n + k) (k + 1)) (fun _ ii _ => 4 - (intOf ii).toNat)
  case atStart => exact ⟨0, by omega, rfl, hO⟩
  case round =>
    clear hO
    obtain ⟨k, hk, rfl, hO⟩ := hrel
    obtain ⟨col1, v1, J, h, hJ, hcol, hnew, hcw, hJb, ⟨xs, hown⟩, hu⟩ := hO
    by_cases hlt : k < 4
    · have hlt' : (k : Int) < 4 := by omega
      obtain ⟨N, hN⟩ : ∃ N, n + k = N := ⟨_, rfl⟩
      rw [hN] at hown hu
      have hNl : N ≤ 100004 := by omega
      obtain ⟨pu, cu, hus⟩ := row_slice hown
      subst hus
      have HN : Hid (n + k = N) := hN
      have HL : Hid _ := h
      have HU : Hid _ := hu
      have HCC : Hid _ := (And.intro hcol (And.intro hnew (And.intro hcw hJb)))
      have hJk : Hid (J.length = k + 1) := hJ
      have hsm : N + 1 ≤ maxLen := by unfold maxLen; omega
      clear hN h hu hcol hnew hcw hJb hJ
      go_wp2_with (at_builtin; refine wpList_append_two (by rfl) _ _ _ (by rfl) 0 3 i0 (I64 0) 1 8 Tryz.underlying22 hi hz0 hz1 hz2 rfl (by omega) _ N xs (by rfl) (hown.alloc _) ⟨wr.heap.size, 0, none⟩ 1 1 [I64 0] (by rfl) (by rfl) (World.news_of_block (cs := #[I64 0]) (heap_alloc_new _ _)) (by simp [Value.oneCell']) (by omega) hsm (by omega) (Nat.zero_le _) (wr.heap.size + 1) (by simp) ?_; intro gA cA w3 hown3 hat3 hlt3; have hap := LSt.appI HL.out hown (fun b hb => ⟨(HU.out b hb).1, (HU.out b hb).2.1⟩) hown3 hat3; have hcA := hap.2.2.2.2.1; have HAP : Hid _ := hap; clear hap; have HO3 : Hid _ := hown3; have HA3 : Hid _ := hat3; clear hown3 hat3; have qa : ¬ cA = N := (by omega); have qb : ¬ cA < N + 1 := (by omega); have qc : ¬ N + 1 < N := (by omega))
      obtain ⟨h3, hno, hcl, ⟨cur, hcur, hcsz⟩, _, _⟩ := HAP.out
      have hmk := mark_at w3 (ext wr.heap.size col1 6) bw vc v1 vg vl (I ++ J) (some ⟨gA, N * 1, none⟩) 1 (cA - N) h3.hb h3.cb h3.sI (.inr ⟨gA, N * 1, cur, rfl, hcl, hcur, hcsz, hno⟩) (by omega) (by rw [List.length_append, hJk.out]; omega)
      clear h3 hno hcl hcur hcsz HAP
      rw [show (⟨gA, N, none⟩ : Addr) = ⟨gA, N * 1, none⟩ by rw [Nat.mul_one]]
      refine hmk.mono ?_
      rintro e w4 ⟨rfl, v4, m1, m2, m3, m4⟩
      clear hmk
      have HON : Hid _ := OwnI.next (vi := vi) (vg := vg) (vl := vl) HL.out hJk.out HCC.out.1 HCC.out.2.1 HCC.out.2.2.1 HCC.out.2.2.2 hown HU.out HO3.out HA3.out m1 m2 m3 m4
      clear m1 m2 m3 m4 HL HU HCC HO3 HA3 hown
      go_wp2
      go_roundw
      case rel => exact ⟨k + 1, by omega, by go_num, by rw [show n + (k + 1) = N + 1 by have := HN.out; omega]; exact HON.out⟩
      case measure => simp [intOf]; omega

    · have hk4 : k = 4 := by omega
      subst hk4
      go_wp2
      go_end0
      exact ⟨rfl, col1, v1, J, h, hJ, hcol, hnew, hcw, hJb⟩

set_option maxRecDepth 100000 in
set_option maxHeartbeats 4000000 in
theorem ownGuilt_at (w : World) (col : Nat → Nat) (bw : Nat) (vc vi vg vl : Value) (I G L : List Value) (v : Value) (n : Nat) (hS : LSt w col bw vc vi vg vl I G L) (hr : RowX w 84 8 v n) (hv : ∀ b, v.ownBlock = some b → col b = 7 ∧ NoT 8 G b 0) (hn : n ≤ 100000) (hI : G.length ≤ 999999990) :
    Calls Tryz.prog 54 #[.pointer (some ⟨bw, 0, none⟩), v] w fun e w' => e = .returned (.tuple #[]) ∧ OwnedG w w' col bw vc vi vg vl I G L v 5 := by
  obtain ⟨i0, hi, hz0, hz1, hz2⟩ := info_parts info_guilt
  obtain ⟨p, c, hvs⟩ : ∃ p c, v = .slice p n c := by obtain ⟨xs, h⟩ := hr; exact row_slice h
  subst hvs
  have hm0 := markGuilt_at w col bw vc vi vg vl G p n c hS.hb hS.cb hS.sG (by
    obtain ⟨xs, hr⟩ := hr
    rcases hr.2 with ⟨_, h0⟩ | ⟨g, cap, cur, he, _, hg, hle, _, hsz, _⟩
    · exact .inl h0
    · simp only [Value.slice.injEq, true_and] at he
      obtain ⟨rfl, rfl⟩ := he
      exact .inr ⟨g, 0, cur, rfl, (hv g rfl).1, hg, by rw [hsz, Nat.zero_add]; exact Nat.mul_le_mul_right _ hle, (hv g rfl).2⟩) (by omega) (by omega)
  go_enter Tryz.func54, Tryz.ntmps54
  go_wp2_with fail
  refine hm0.mono ?_
  rintro e w1 ⟨rfl, v', m1, m2, m3, m4⟩
  have hO : OwnG w w1 col bw vc vi vg vl I G L (.slice p n c) (.slice p n c) (n + 0) (0 + 1) := OwnG.begin hS hr hv m1 m2 m3 m4
  clear m1 m2 m3 m4 hm0 hr hv hS
  go_wp2_with fail
  go_loopw [1, 4] (fun u ii wr => ∃ k : Nat, k ≤ 4 ∧ ii = .int .i64 k ∧ OwnG w wr col bw vc vi vg vl I G L (.slice p n c) u (n + k) (k + 1)) (fun _ ii _ => 4 - (intOf ii).toNat)
  case atStart => exact ⟨0, by omega, rfl, hO⟩
  case round =>
    clear hO
    obtain ⟨k, hk, rfl, hO⟩ := hrel
    obtain ⟨col1, v1, J, h, hJ, hcol, hnew, hcw, hJb, ⟨xs, hown⟩, hu⟩ := hO
    by_cases hlt : k < 4
    · have hlt' : (k : Int) < 4 := by omega
      obtain ⟨N, hN⟩ : ∃ N, n + k = N := ⟨_, rfl⟩
      rw [hN] at hown hu
      have hNl : N ≤ 100004 := by omega
      obtain ⟨pu, cu, hus⟩ := row_slice hown
      subst hus
      have HN : Hid (n + k = N) := hN
      have HL : Hid _ := h
      have HU : Hid _ := hu
      have HCC : Hid _ := (And.intro hcol (And.intro hnew (And.intro hcw hJb)))
      have hJk : Hid (J.length = k + 1) := hJ
      have hsm : N + 1 ≤ maxLen := by unfold maxLen; omega
      clear hN h hu hcol hnew hcw hJb hJ
      go_wp2_with (at_builtin; refine wpList_append_two (by rfl) _ _ _ (by rfl) 0 84 i0 (.agg #[I64 0, I64 0, I64 0, I64 0, I64 0, I64 0, I64 0, I64 0]) 8 64 Tryz.underlying72 hi hz0 hz1 hz2 rfl (by omega) _ N xs (by rfl) (hown.alloc _) ⟨wr.heap.size, 0, none⟩ 1 1 [I64 0, I64 0, I64 0, I64 0, I64 0, I64 0, I64 0, I64 0] (by rfl) (by rfl) (World.news_of_block (cs := #[I64 0, I64 0, I64 0, I64 0, I64 0, I64 0, I64 0, I64 0]) (heap_alloc_new _ _)) (by simp [Value.oneCell']) (by omega) hsm (by omega) (Nat.zero_le _) (wr.heap.size + 1) (by simp) ?_; intro gA cA w3 hown3 hat3 hlt3; have hap := LSt.appG HL.out hown (fun b hb => ⟨(HU.out b hb).1, (HU.out b hb).2.1⟩) hown3 hat3; have hcA := hap.2.2.2.2.1; have HAP : Hid _ := hap; clear hap; have HO3 : Hid _ := hown3; have HA3 : Hid _ := hat3; clear hown3 hat3; have qa : ¬ cA = N := (by omega); have qb : ¬ cA < N + 1 := (by omega); have qc : ¬ N + 1 < N := (by omega))
      obtain ⟨h3, hno, hcl, ⟨cur, hcur, hcsz⟩, _, _⟩ := HAP.out
      have hmk := markGuilt_at w3 (ext wr.heap.size col1 7) bw vc vi v1 vl (G ++ J) (some ⟨gA, N * 8, none⟩) 1 (cA - N) h3.hb h3.cb h3.sG (.inr ⟨gA, N * 8, cur, rfl, hcl, hcur, hcsz, hno⟩) (by omega) (by rw [List.length_append, hJk.out]; omega)
      clear h3 hno hcl hcur hcsz HAP
      refine hmk.mono ?_
      rintro e w4 ⟨rfl, v4, m1, m2, m3, m4⟩
      clear hmk
      have HON : Hid _ := OwnG.next (vi := vi) (vg := vg) (vl := vl) HL.out hJk.out HCC.out.1 HCC.out.2.1 HCC.out.2.2.1 HCC.out.2.2.2 hown HU.out HO3.out HA3.out m1 m2 m3 m4
      clear m1 m2 m3 m4 HL HU HCC HO3 HA3 hown
      go_wp2
      go_roundw
      case rel => exact ⟨k + 1, by omega, by go_num, by rw [show n + (k + 1) = N + 1 by have := HN.out; omega]; exact HON.out⟩
      case measure => simp [intOf]; omega

    · have hk4 : k = 4 := by omega
      subst hk4
      go_wp2
      go_end0
      exact ⟨rfl, col1, v1, J, h, hJ, hcol, hnew, hcw, hJb⟩
end Go.Proofs.YtgebcnnenhgkcaaGreat
/- The caller's lists: ownLinks. -/
namespace Go.Proofs.YtgebcnnenhgkcaaGreat
open Go.RowKit Go.Shelf

/-- Behind the voters' lists of the first j links. -/
def OL (w wr : World) (col : Nat → Nat) (bw : Nat) (vc vg vl : Value) (I G L : List Value) (X : List LkV) (j : Nat) : Prop :=
  ∃ (colb : Nat → Nat) (vib : Value) (J : List Value), LSt wr colb bw vc vib vg vl (I ++ J) G L ∧ J.length = 5 * j ∧ (∀ k, k < w.heap.size → colb k = col k) ∧ (∀ k, w.heap.size ≤ k → 3 ≤ colb k ∧ colb k ≤ 8) ∧
    Chg (fun k => col k = 1 ∨ col k = 3 ∨ ∃ i x, i < j ∧ X[i]? = some x ∧ x.2.ownBlock = some k) w wr ∧ ∀ e ∈ J, ∀ k, e.ownBlock = some k → (∃ i x, i < j ∧ X[i]? = some x ∧ x.2.ownBlock = some k) ∨ w.heap.size ≤ k
theorem OL.next {w wr w2 : World} {col colb : Nat → Nat} {bw : Nat} {vc vib vg vl : Value} {I G L J : List Value} {X : List LkV} {j : Nat} {x : LkV} (hx : X[j]? = some x) (_hh : LSt wr colb bw vc vib vg vl (I ++ J) G L) (hJ : J.length = 5 * j) (hcol : ∀ k, k < w.heap.size → colb k = col k) (hnew : ∀ k, w.heap.size ≤ k → 3 ≤ colb k ∧ colb k ≤ 8)
    (hc : Chg (fun k => col k = 1 ∨ col k = 3 ∨ ∃ i x, i < j ∧ X[i]? = some x ∧ x.2.ownBlock = some k) w wr) (hJb : ∀ e ∈ J, ∀ k, e.ownBlock = some k → (∃ i x, i < j ∧ X[i]? = some x ∧ x.2.ownBlock = some k) ∨ w.heap.size ≤ k)
    (h : OwnedI wr w2 colb bw vc vib vg vl (I ++ J) G L x.2 5) : OL w w2 col bw vc vg vl I G L X (j + 1) := by
  obtain ⟨col', v', J', h1, h2, h3, h4, h5, h6⟩ := h
  have hz := hc.size
  refine ⟨col', v', J ++ J', by rw [← List.append_assoc]; exact h1, by rw [List.length_append]; omega, fun k hk => by rw [h3 k (by omega)]; exact hcol k hk, fun k hk => ?_, ?_, fun e he k hk => ?_⟩
  · by_cases hl : k < wr.heap.size
    · rw [h3 k hl]; exact hnew k hk
    · exact h4 k (by omega)
  · refine (hc.mono (T := fun k => col k = 1 ∨ col k = 3 ∨ ∃ i x, i < j + 1 ∧ X[i]? = some x ∧ x.2.ownBlock = some k) (fun k _ e => ?_)).then h5 (fun k e => ?_)
    · rcases e with e | e | ⟨i, y, e1, e2, e3⟩
      · exact .inl e
      · exact .inr (.inl e)
      · exact .inr (.inr ⟨i, y, by omega, e2, e3⟩)
    · by_cases hk : k < w.heap.size
      · left
        rw [hcol k hk] at e
        rcases e with e | e | e
        · exact .inl e
        · exact .inr (.inl e)
        · exact .inr (.inr ⟨j, x, by omega, hx, e⟩)
      · exact .inr (by omega)
  · rcases List.mem_append.1 he with he | he
    · rcases hJb e he k hk with ⟨i, y, e1, e2, e3⟩ | e1
      · exact .inl ⟨i, y, by omega, e2, e3⟩
      · exact .inr e1
    · rcases h6 e he k hk with e1 | e1
      · exact .inl ⟨j, x, by omega, hx, e1⟩
      · exact .inr (by omega)

set_option maxRecDepth 100000 in
set_option maxHeartbeats 4000000 in
theorem ownLinks_at (w : World) (col : Nat → Nat) (bw : Nat) (vc vi vg vl : Value) (I G L : List Value) (v : Value) (X : List LkV) (hS : LSt w col bw vc vi vg vl I G L) (hX : LinksAt w 0 v X) (hv : ∀ b, v.ownBlock = some b → col b = 8 ∧ NoT 3 L b 0) (hvs : ∀ x ∈ X, ∀ b, x.2.ownBlock = some b → col b = 6 ∧ NoT 1 I b 0)
    (hn40 : X.length ≤ 40) (hvl : ∀ x ∈ X, x.1.vs.length ≤ 1000) (hI : I.length ≤ 999999000) (hL : L.length ≤ 999999990) :
    Calls Tryz.prog 55 #[.pointer (some ⟨bw, 0, none⟩), v] w fun e w' => e = .returned (.tuple #[]) ∧ ∃ (col' : Nat → Nat) (vi' vl' : Value) (J K : List Value), LSt w' col' bw vc vi' vg vl' (I ++ J) G (L ++ K) ∧ J.length = 5 * X.length ∧ K.length = 5 ∧ (∀ k, k < w.heap.size → col' k = col k) ∧ (∀ k, w.heap.size ≤ k → 3 ≤ col' k ∧ col' k ≤ 8) ∧
      Chg (fun k => col k = 1 ∨ col k = 3 ∨ col k = 5 ∨ v.ownBlock = some k ∨ ∃ x ∈ X, x.2.ownBlock = some k) w w' ∧ (∀ e ∈ J, ∀ k, e.ownBlock = some k → (∃ x ∈ X, x.2.ownBlock = some k) ∨ w.heap.size ≤ k) ∧ ∀ e ∈ K, ∀ k, e.ownBlock = some k → v.ownBlock = some k ∨ w.heap.size ≤ k := by
  obtain ⟨i0, hi, hz0, hz1, hz2⟩ := info_parts info_link
  obtain ⟨p, c, hvs0, hLk, _⟩ := hX.lk
  subst hvs0
  have HX : Hid (LinksAt w 0 (.slice p X.length c) X ∧ (∀ x ∈ X, ∀ b, x.2.ownBlock = some b → col b = 6 ∧ NoT 1 I b 0) ∧ ∀ x ∈ X, x.1.vs.length ≤ 1000) := ⟨hX, hvs, hvl⟩
  have HV : Hid (∀ b, (Value.slice p X.length c).ownBlock = some b → col b = 8 ∧ NoT 3 L b 0) := hv
  have HO0 : OL w w col bw vc vg vl I G L X 0 := ⟨ext w.heap.size col 6, vi, [], by rw [List.append_nil]; exact hS.kept (Chg.refl (fun _ => False) w) (fun b _ h => h.elim) (fun b hb => ext_lt hb), rfl, fun _ hk => ext_lt hk, fun k hk => by rw [ext_ge hk]; omega, Chg.refl _ _, fun e he => (by cases he)⟩
  have hml : X.length ≤ 9223372036854775807 := by omega
  clear hX hvs hvl hv
  go_enter Tryz.func55, Tryz.ntmps55
  go_wp2_with fail
  go_loopw [4] (fun ii wr => ∃ j : Nat, j ≤ X.length ∧ ii = .int .i64 j ∧ OL w wr col bw vc vg vl I G L X j) (fun ii _ => X.length - (intOf ii).toNat)
  case atStart => exact ⟨0, by omega, rfl, HO0⟩
  case round =>
    clear HO0
    obtain ⟨j, hj, rfl, hOL⟩ := hrel
    obtain ⟨wb, hwb⟩ : ∃ wb, wb = wr := ⟨_, rfl⟩
    subst hwb
    obtain ⟨colb, vib, JI, hh, hJ, hcol, hnew, hc, hJb⟩ := hOL
    have hnS : ∀ b, (Value.slice p X.length c).ownBlock = some b → ¬ (col b = 1 ∨ col b = 3 ∨ ∃ i x, i < j ∧ X[i]? = some x ∧ x.2.ownBlock = some b) := fun b hb hs => by
      have h8 := (HV.out b hb).1
      rcases hs with h1 | h1 | ⟨i, y, _, h2, h3⟩
      · omega
      · omega
      · have := (HX.out.2.1 y (List.mem_of_getElem? h2) b h3).1; omega
    by_cases hlt : j < X.length
    · have hlt' : (j : Int) < (X.length : Int) := by omega
      obtain ⟨x, hx⟩ : ∃ x, X[j]? = some x := ⟨_, List.getElem?_eq_getElem hlt⟩
      have hxm := List.mem_of_getElem? hx
      rcases hLk.at' with e | ⟨g, o, rfl, hcs⟩
      · rw [e] at hlt; simp at hlt
      obtain ⟨_, _, v2⟩ := hcs j x hx
      have x2 : wb.cell? ⟨g, o + j * 3 + 2, none⟩ = some x.2 := hc.cell v2 (hnS g rfl)
      have hrow := HX.out.1.each x hxm
      have hap : ∀ i y, i < j → X[i]? = some y → ∀ k, y.2.ownBlock = some k → x.2.ownBlock ≠ some k := fun i y hij hy k hk => by
        have h9 := List.pairwise_iff_getElem.1 HX.out.1.apart
        obtain ⟨l1, e1⟩ := List.getElem?_eq_some_iff.1 hy
        obtain ⟨l2, e2⟩ := List.getElem?_eq_some_iff.1 hx
        have h8 := h9 i j l1 l2 hij
        rw [e1, e2] at h8
        exact h8 k hk
      have hrow2 := hc.row hrow (fun k hk hs => by
        have h6 := (HX.out.2.1 x hxm k hk).1
        rcases hs with h1 | h1 | ⟨i, y, h1, h2, h3⟩
        · omega
        · omega
        · exact hap i y h1 h2 k h3 hk)
      have hown := own_at wb colb bw vc vib vg vl (I ++ JI) G L x.2 x.1.vs.length hh ⟨_, hrow2⟩ (fun b hb => by
        have hbl := (hrow.lt b hb).2
        have h6 := HX.out.2.1 x hxm b hb
        refine ⟨by rw [hcol b hbl]; exact h6.1, fun e he hbe => ?_⟩
        rcases List.mem_append.1 he with he | he
        · exact h6.2 e he hbe
        · exfalso
          rcases hJb e he b hbe with ⟨i, y, e1, e2, e3⟩ | e1
          · exact hap i y e1 e2 b e3 hb
          · omega) (by have := HX.out.2.2 x hxm; omega) (by rw [List.length_append]; omega)
      obtain ⟨pv, cv, hxv⟩ := row_slice hrow
      rw [hxv] at x2 hown
      have HXV : Hid (x.2 = .slice pv x.1.vs.length cv) := hxv
      have HH : Hid _ := hh
      have HCC : Hid _ := (And.intro hcol (And.intro hnew (And.intro hc hJb)))
      have HAP : Hid _ := hap
      clear hcs hh hcol hnew hc hJb hap hrow hrow2 hnS v2 hxv
      go_wp2_with fail
      refine hown.mono ?_
      rintro e w2 ⟨rfl, hO⟩
      clear hown
      rw [← HXV.out] at hO
      have hON : OL w w2 col bw vc vg vl I G L X (j + 1) := OL.next hx HH.out hJ HCC.out.1 HCC.out.2.1 HCC.out.2.2.1 HCC.out.2.2.2 hO
      clear hO HH HCC x2
      go_wp2
      go_roundw
      case rel => exact ⟨j + 1, by omega, by go_num, hON⟩
      case measure => simp [intOf]; omega
    · have hje : j = X.length := by omega
      obtain ⟨n, hnX⟩ : ∃ n, X.length = n := ⟨_, rfl⟩
      have hrowL : RowX wb 121 3 (.slice p X.length c) X.length := ⟨_, hc.row HX.out.1.row hnS⟩
      have hvL : ∀ b, (Value.slice p X.length c).ownBlock = some b → colb b = 8 ∧ NoT 3 L b 0 := fun b hb => by
        have hbl := (HX.out.1.row.lt b hb).2
        exact ⟨by rw [hcol b hbl]; exact (HV.out b hb).1, (HV.out b hb).2⟩
      have HFIN : Hid (∀ w', OwnedL wb w' colb bw vc vib vg vl (I ++ JI) G L (.slice p X.length c) 5 → ∃ (col' : Nat → Nat) (vi' vl' : Value) (J K : List Value), LSt w' col' bw vc vi' vg vl' (I ++ J) G (L ++ K) ∧ J.length = 5 * X.length ∧ K.length = 5 ∧ (∀ k, k < w.heap.size → col' k = col k) ∧ (∀ k, w.heap.size ≤ k → 3 ≤ col' k ∧ col' k ≤ 8) ∧
          Chg (fun k => col k = 1 ∨ col k = 3 ∨ col k = 5 ∨ (Value.slice p X.length c).ownBlock = some k ∨ ∃ x ∈ X, x.2.ownBlock = some k) w w' ∧ (∀ e ∈ J, ∀ k, e.ownBlock = some k → (∃ x ∈ X, x.2.ownBlock = some k) ∨ w.heap.size ≤ k) ∧ ∀ e ∈ K, ∀ k, e.ownBlock = some k → (Value.slice p X.length c).ownBlock = some k ∨ w.heap.size ≤ k) := fun w' hO => by
        obtain ⟨col', v', K, h1, h2, h3, h4, h5, h6⟩ := hO
        have hz := hc.size
        refine ⟨col', vib, v', JI, K, h1, by rw [hJ, hje], h2, fun k hk => by rw [h3 k (by omega)]; exact hcol k hk, fun k hk => ?_, ?_, fun e he k hk => ?_, fun e he k hk => ?_⟩
        · by_cases hl : k < wb.heap.size
          · rw [h3 k hl]; exact hnew k hk
          · exact h4 k (by omega)
        · refine (hc.mono (T := fun k => col k = 1 ∨ col k = 3 ∨ col k = 5 ∨ (Value.slice p X.length c).ownBlock = some k ∨ ∃ x ∈ X, x.2.ownBlock = some k) (fun k _ e => ?_)).then h5 (fun k e => ?_)
          · rcases e with e | e | ⟨i, y, _, e2, e3⟩
            · exact .inl e
            · exact .inr (.inl e)
            · exact .inr (.inr (.inr (.inr ⟨y, List.mem_of_getElem? e2, e3⟩)))
          · by_cases hk : k < w.heap.size
            · left
              rw [hcol k hk] at e
              rcases e with e | e | e
              · exact .inl e
              · exact .inr (.inr (.inl e))
              · exact .inr (.inr (.inr (.inl e)))
            · exact .inr (by omega)
        · rcases hJb e he k hk with ⟨i, y, _, e2, e3⟩ | e1
          · exact .inl ⟨y, List.mem_of_getElem? e2, e3⟩
          · exact .inr e1
        · rcases h6 e he k hk with e1 | e1
          · exact .inl e1
          · exact .inr (by omega)
      have hm0 := markLinks_at wb colb bw vc vib vg vl L p X.length c hh.hb hh.cb hh.sL (by
        obtain ⟨xs, hr⟩ := hrowL
        rcases hr.2 with ⟨_, h0⟩ | ⟨g, cap, cur, he, _, hg, hle, _, hsz, _⟩
        · exact .inl h0
        · simp only [Value.slice.injEq, true_and] at he
          obtain ⟨rfl, rfl⟩ := he
          exact .inr ⟨g, 0, cur, rfl, (hvL g rfl).1, hg, by rw [hsz, Nat.zero_add]; exact Nat.mul_le_mul_right _ hle, (hvL g rfl).2⟩) (by omega) (by omega)
      rw [hnX] at hrowL hvL HFIN hm0 hlt hn40
      have HH : Hid _ := hh
      clear hh hcol hnew hc hJb hnS hje hLk
      go_wp2_with fail
      try rw [hnX]
      have HNX : Hid (X.length = n) := hnX
      clear hnX
      refine hm0.mono ?_
      rintro e w1 ⟨rfl, v', m1, m2, m3, m4⟩
      have hO : OwnL wb w1 colb bw vc vib vg vl (I ++ JI) G L (.slice p n c) (.slice p n c) (n + 0) (0 + 1) := OwnL.begin HH.out hrowL hvL m1 m2 m3 m4
      clear m1 m2 m3 m4 hm0 hrowL hvL HH
      go_wp2_with fail
      go_loopw [1, 5] (fun u ii wr => ∃ k : Nat, k ≤ 4 ∧ ii = .int .i64 k ∧ OwnL wb wr colb bw vc vib vg vl (I ++ JI) G L (.slice p n c) u (n + k) (k + 1)) (fun _ ii _ => 4 - (intOf ii).toNat)
      case atStart => exact ⟨0, by omega, rfl, hO⟩
      case round =>
        clear hO
        obtain ⟨k, hk, rfl, hO⟩ := hrel
        obtain ⟨col1, v1, J, h, hJ, hcol, hnew, hcw, hJb, ⟨xs, hown⟩, hu⟩ := hO
        by_cases hlt : k < 4
        · have hlt' : (k : Int) < 4 := by omega
          obtain ⟨N, hN⟩ : ∃ N, n + k = N := ⟨_, rfl⟩
          rw [hN] at hown hu
          have hNl : N ≤ 100004 := by omega
          obtain ⟨pu, cu, hus⟩ := row_slice hown
          subst hus
          have HN : Hid (n + k = N) := hN
          have HL : Hid _ := h
          have HU : Hid _ := hu
          have HCC : Hid _ := (And.intro hcol (And.intro hnew (And.intro hcw hJb)))
          have hJk : Hid (J.length = k + 1) := hJ
          have hsm : N + 1 ≤ maxLen := by unfold maxLen; omega
          clear hN h hu hcol hnew hcw hJb hJ
          go_wp2_with (at_builtin; refine wpList_append_two (by rfl) _ _ _ (by rfl) 0 121 i0 (.agg #[I64 0, I64 0, .slice none 0 0]) 3 40 Tryz.underlying69 hi hz0 hz1 hz2 rfl (by omega) _ N xs (by rfl) (hown.alloc _) ⟨wr.heap.size, 0, none⟩ 1 1 [I64 0, I64 0, .slice none 0 0] (by rfl) (by rfl) (World.news_of_block (cs := #[I64 0, I64 0, .slice none 0 0]) (heap_alloc_new _ _)) (by simp [Value.oneCell']) (by omega) hsm (by omega) (Nat.zero_le _) (wr.heap.size + 1) (by simp) ?_; intro gA cA w3 hown3 hat3 hlt3; have hap := LSt.appL HL.out hown (fun b hb => ⟨(HU.out b hb).1, (HU.out b hb).2.1⟩) hown3 hat3; have hcA := hap.2.2.2.2.1; have HAP : Hid _ := hap; clear hap; have HO3 : Hid _ := hown3; have HA3 : Hid _ := hat3; clear hown3 hat3; have qa : ¬ cA = N := (by omega); have qb : ¬ cA < N + 1 := (by omega); have qc : ¬ N + 1 < N := (by omega))
          obtain ⟨h3, hno, hcl, ⟨cur, hcur, hcsz⟩, _, _⟩ := HAP.out
          have hmk := markLinks_at w3 (ext wr.heap.size col1 8) bw vc vib vg v1 (L ++ J) (some ⟨gA, N * 3, none⟩) 1 (cA - N) h3.hb h3.cb h3.sL (.inr ⟨gA, N * 3, cur, rfl, hcl, hcur, hcsz, hno⟩) (by omega) (by rw [List.length_append, hJk.out]; omega)
          clear h3 hno hcl hcur hcsz HAP
          refine hmk.mono ?_
          rintro e w4 ⟨rfl, v4, m1, m2, m3, m4⟩
          clear hmk
          have HON : Hid _ := OwnL.next (vi := vib) (vg := vg) (vl := vl) HL.out hJk.out HCC.out.1 HCC.out.2.1 HCC.out.2.2.1 HCC.out.2.2.2 hown HU.out HO3.out HA3.out m1 m2 m3 m4
          clear m1 m2 m3 m4 HL HU HCC HO3 HA3 hown
          go_wp2
          go_roundw
          case rel => exact ⟨k + 1, by omega, by go_num, by rw [show n + (k + 1) = N + 1 by have := HN.out; omega]; exact HON.out⟩
          case measure => simp [intOf]; omega

        · have hk4 : k = 4 := by omega
          subst hk4
          go_wp2
          go_end0
          have h9 := HFIN.out _ ⟨col1, v1, J, h, hJ, hcol, hnew, hcw, hJb⟩
          rw [← HNX.out] at h9
          exact ⟨rfl, h9⟩
end Go.Proofs.YtgebcnnenhgkcaaGreat
