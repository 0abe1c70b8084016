/- votersFor: all who have voted for a link, rising, in new memory. -/
import Derived.Test.YtgebcnnenhgkcaaSortA
import Derived.Test.YtgebcnnenhgkcaaPureB
import Derived.Test.YtgebcnnenhgkcaaVoteA
namespace Go.Proofs.Ytgebcnnenhgkcaa
open Go.RowKit

set_option maxHeartbeats 1000000 in
theorem sort_nil (w : World) :
    Calls Try.prog 111 #[.slice none 0 0] w fun e w' => e = .returned (.tuple #[]) ∧ w' = w := by
  have h1 : Calls Try.prog 127 #[.slice none 0 0, .int .i64 0, .int .i64 0] w fun e w' => e = .returned (.tuple #[]) ∧ w' = w := by
    go_enter Try.func127, Try.ntmps127
    go_wp2
    go_rounds 1
    go_end0
    exact ⟨rfl, rfl⟩
  have h2 : ∀ k, Calls Try.prog 123 #[.slice none 0 0, .int .i64 0, .int .i64 0, .int .i64 k] w fun e w' => e = .returned (.tuple #[]) ∧ w' = w := by
    intro k
    go_enter Try.func123, Try.ntmps123
    go_wp2
    go_loopw [1, 2] (fun a b wr => a = .int .i64 0 ∧ b = .int .i64 0 ∧ wr = w) (fun _ _ _ => 0)
    case atStart => exact ⟨rfl, rfl, rfl⟩
    case round =>
      obtain ⟨rfl, rfl, rfl⟩ := hrel
      go_wp2_with fail
      refine h1.mono ?_
      rintro e w2 ⟨rfl, rfl⟩
      go_wp2
      refine bodyPost_ret (results_none rfl _ _ _) rfl ?_
      exact ⟨rfl, rfl⟩
  go_enter Try.func111, Try.ntmps111
  go_wp2_with fail
  refine (len_at 0 (by omega) _).mono ?_
  rintro e w1 ⟨⟨k, rfl⟩, rfl⟩
  go_wp2_with fail
  refine (h2 k).mono ?_
  rintro e w2 ⟨rfl, rfl⟩
  go_wp2
  go_end0
  exact ⟨rfl, rfl⟩

theorem row_nums {w : World} {base g n cap : Nat} {xs : List Int} (h : w.ownsRow base 3 1 (.slice (some ⟨g, 0, none⟩) n cap) n (xs.map I64)) : n = xs.length ∧ Nums w g cap xs.toArray ∧ base ≤ g ∧ n ≤ cap ∧ cap ≤ maxLen := by
  have hn : xs.length = n := by simpa using h.1
  subst hn
  rcases h.2 with ⟨h', _⟩ | ⟨g', cap', cur, h', hb, hg, hle, hm, hs, ht⟩
  · simp at h'
  · simp only [Value.slice.injEq, Option.some.injEq, Addr.mk.injEq, and_true, true_and] at h'
    obtain ⟨rfl, rfl⟩ := h'
    refine ⟨rfl, ⟨cur, hg, by omega, by simpa using hle, fun j hj => ?_⟩, hb, hle, hm⟩
    have hj' : j < xs.length := by simpa using hj
    have h1 : (cur.toList.take (xs.length * 1))[j]? = (xs.map I64)[j]? := by rw [ht]
    rw [List.getElem?_take_of_lt (by omega)] at h1
    simp only [Array.getElem?_toList] at h1
    rw [h1]
    simp [hj']
theorem nums_row {w : World} {base g cap : Nat} {A : Array Int} (h : Nums w g cap A) (hb : base ≤ g) (hm : cap ≤ maxLen) : w.ownsRow base 3 1 (.slice (some ⟨g, 0, none⟩) A.size cap) A.size (A.toList.map I64) := by
  obtain ⟨cur, h1, h2, h3, h4⟩ := h
  refine ⟨by simp, .inr ⟨g, cap, cur, rfl, hb, h1, h3, hm, by omega, ?_⟩⟩
  apply List.ext_getElem?
  intro j
  by_cases hj : j < A.size
  · rw [List.getElem?_take_of_lt (by omega)]
    simp only [Array.getElem?_toList]
    rw [h4 j hj]
    simp [hj]
  · rw [List.getElem?_eq_none (by simp; omega), List.getElem?_eq_none (by simp; omega)]
theorem pairwise_of_get {l : List Int} (h : ∀ p q, p < q → q < l.length → l.toArray[p]! ≤ l.toArray[q]!) : l.Pairwise (fun a b => a ≤ b) := by
  rw [List.pairwise_iff_getElem]
  intro i j hi hj hij
  have := h i j hij hj
  rw [getElem!_pos _ _ (by simpa using hi), getElem!_pos _ _ (by simpa using hj)] at this
  simpa using this

/-- The sort at a row of one's own. -/
theorem sortRow_at (base : Nat) (v : Value) (l : List Int) (w : World) (h : w.ownsRow base 3 1 v l.length (l.map I64)) (hl : l.length ≤ 12) :
    Calls Try.prog 111 #[v] w fun e w' => e = .returned (.tuple #[]) ∧ ∃ z : List Int, z.Perm l ∧ z.Pairwise (fun a b => a ≤ b) ∧ w'.ownsRow base 3 1 v z.length (z.map I64) ∧ Chg (fun k => v.ownBlock = some k) w w' := by
  rcases h.2 with ⟨rfl, hn⟩ | ⟨g, cap, cur, rfl, hb, _⟩
  · refine (sort_nil w).mono ?_
    rintro e w' ⟨rfl, rfl⟩
    exact ⟨rfl, l, List.Perm.refl _, by have : l = [] := List.length_eq_zero_iff.1 hn
                                        rw [this]; exact List.Pairwise.nil, h, Chg.refl _ _⟩
  · obtain ⟨_, hN, _, hle, hm⟩ := row_nums h
    have hs : l.toArray.size = l.length := by simp
    have := sort_at g cap l.toArray w hN (by omega)
    rw [hs] at this
    refine this.mono ?_
    rintro e w' ⟨rfl, A', h1, h2, h3, h4⟩
    have hsz : A'.size = l.length := by simpa using h2.length_eq
    refine ⟨rfl, A'.toList, by simpa using h2, pairwise_of_get (fun p q h1 h2 => by simpa using h3 p q h1 (by simpa using h2)), ?_, h4.mono (fun k _ e => by simp [Value.ownBlock]; exact e.symm)⟩
    have hrow := nums_row h1 hb hm
    rw [hsz] at hrow
    have hlen : A'.toList.length = l.length := by simpa using hsz
    rw [hlen]
    exact hrow

theorem cell_two_new (w : World) (o : Obj) (v : Value) (t : TypeId) : ∀ j u, [v][j]? = some u → ((w.alloc o).alloc (.cells #[v] t)).cell? ((⟨w.heap.size + 1, 0, none⟩ : Addr).add j) = some u := by
  have := cell_one_new (w.alloc o) v t
  simpa using this

set_option maxRecDepth 100000 in
set_option maxHeartbeats 2000000 in
theorem votersFor_at (b : Nat) (S : Nat → Prop) (m : Int) (ws ps : List Int) (vs : List Vt) (wv pv vv : Value) (s t : Int) (w : World) (h : CourtAt w b S m ws ps vs wv pv vv) (hw : ws.length ≤ 12) (hl : vs.length ≤ 300) (hO : OkV ws.length ps vs) :
    Calls Try.prog 95 #[.pointer (some ⟨b, 0, none⟩), .int .i64 s, .int .i64 t] w fun e w' => (∃ v, e = .returned v ∧ w'.ownsRow w.heap.size 3 1 v (votersL ws.length vs s t).length ((votersL ws.length vs s t).map I64)) ∧ Below w.heap.size w w' := by
  obtain ⟨i0, hi, hz0, hz1, hz2⟩ := info_parts info_int
  have hbl := h.lt b h.inb
  have h4 := h.c4
  have HO : Hid (OkV ws.length ps vs) := hO
  clear hO
  obtain ⟨vp, vc, hvv⟩ : ∃ vp vc, vv = .slice vp vs.length vc := by
    rcases h.vrow.2 with ⟨h', h''⟩ | ⟨g, cap, cur, h', _⟩
    · exact ⟨none, 0, by rw [h', h'']⟩
    · exact ⟨_, _, h'⟩
  subst hvv
  go_enter Try.func95, Try.ntmps95
  go_wp2
  go_loopw [7, 15] (fun v i wr => ∃ k : Nat, k ≤ vs.length ∧ i = .int .i64 k ∧ Below w.heap.size w wr ∧ wr.ownsRow w.heap.size 3 1 v (onL (vs.take k) s t).length ((onL (vs.take k) s t).map I64)) (fun _ i _ => vs.length - (intOf i).toNat)
  case atStart => exact ⟨0, by omega, rfl, Below.refl _ _, World.ownsRow_nil _ _ _ _⟩
  case round =>
    obtain ⟨k, hk, rfl, hB, hown⟩ := hrel
    have hz := hB.size
    by_cases hlt : k < vs.length
    · obtain ⟨gv, cap, hgv, _, _, hc, _⟩ := vrow_open h.vrow (by omega)
      simp only [Value.slice.injEq, true_and] at hgv
      obtain ⟨rfl, rfl⟩ := hgv
      have hgl : gv < w.heap.size := VCells.lt hc (by omega)
      obtain ⟨y, hy⟩ : ∃ y, vs[k]? = some y := ⟨_, List.getElem?_eq_getElem hlt⟩
      obtain ⟨hc0, hc1, hc2⟩ := VCells.below hc hB hgl k y hy
      have HN : Hid (onL (vs.take (k + 1)) s t = onL (vs.take k) s t ++ (if y.on s t = true then [y.v] else [])) := by
        show _ = _
        rw [List.take_add_one, hy]
        unfold onL
        by_cases e : y.on s t = true
        · simp [List.filter_append, e]
        · simp [List.filter_append, e]
      clear hc hy
      have hlt' : (k : Int) < (vs.length : Int) := by omega
      have hbr : b < wr.heap.size := by omega
      have hBn := hB.alloc hz (.cells #[I64 y.v, I64 y.s, I64 y.t] 70)
      obtain ⟨n, hn⟩ : ∃ n, (onL (vs.take k) s t).length = n := ⟨_, rfl⟩
      have hnk : n ≤ k := by
        rw [← hn]; unfold onL; simp only [List.length_map]
        exact Nat.le_trans (List.length_filter_le _ _) (by simp; omega)
      obtain ⟨xs, hxs⟩ : ∃ xs, (onL (vs.take k) s t).map I64 = xs := ⟨_, rfl⟩
      rw [hn, hxs] at hown
      have HX : Hid ((onL (vs.take k) s t).map I64 = xs) := hxs
      have HL : Hid ((onL (vs.take k) s t).length = n) := hn
      clear hxs hn
      by_cases e1 : y.on s t = true
      · obtain ⟨e2, e3⟩ := Vt.on_iff.1 e1
        have q1 : (y.s == s) = true := by simpa using e2
        have q2 : (y.t == t) = true := by simpa using e3
        have HE : Hid (y.on s t = true) := e1
        clear e1 e2 e3
        have h63 : Hid (n + 1 ≤ maxLen) := by show _ ≤ _; unfold maxLen; omega
        go_wp2_with (at_builtin; refine wpList_append_own _ (by rfl) _ _ _ (by rfl) w.heap.size 3 i0 (I64 0) 1 8 Try.underlying22 hi hz0 hz1 hz2 rfl (by omega) _ n xs (by rfl) ((hown.alloc _).alloc _) ⟨wr.heap.size + 1, 0, none⟩ 1 1 [I64 y.v] (by rfl) (by rfl) (cell_two_new _ _ _ _) (by simp [Value.oneCell']) h63.out (by omega) (by simp; omega) ?_; intro v1 w1 hown1 hgrow1 hnil1)
        go_roundw
        case rel => exact ⟨k + 1, by omega, by go_num, (hBn.alloc (by simp; omega) _).grown hgrow1 (by simp; omega) (fun j e => (hown.lt j e).1), by rw [HN.out, if_pos HE.out, List.map_append, HX.out, List.length_append, HL.out]; exact hown1⟩
        case measure => simp [intOf]; omega
      · have e1' : y.on s t = false := by simpa using e1
        by_cases e2 : y.s = s
        · have q1 : (y.s == s) = true := by simpa using e2
          have q2 : (y.t == t) = false := by simpa [Vt.on, e2] using e1'
          have HE : Hid (y.on s t = false) := e1'
          clear e1 e2 e1'
          go_wp2
          go_roundw
          case rel => exact ⟨k + 1, by omega, by go_num, hBn, by rw [HN.out, HE.out]; simp only [Bool.false_eq_true, if_false, List.append_nil]; rw [HX.out, HL.out]; exact hown.alloc _⟩
          case measure => simp [intOf]; omega
        · have q1 : (y.s == s) = false := by simpa using e2
          have HE : Hid (y.on s t = false) := e1'
          clear e1 e2 e1'
          go_wp2
          go_roundw
          case rel => exact ⟨k + 1, by omega, by go_num, hBn, by rw [HN.out, HE.out]; simp only [Bool.false_eq_true, if_false, List.append_nil]; rw [HX.out, HL.out]; exact hown.alloc _⟩
          case measure => simp [intOf]; omega
    · have hk' : k = vs.length := by omega
      subst hk'
      rw [List.take_length] at hown
      go_wp2_with fail
      refine (sortRow_at w.heap.size _ (onL vs s t) _ hown (Nat.le_trans (onL_length HO.out s t) hw)).mono ?_
      rintro e w1 ⟨rfl, z, hz1, hz2, hz3, hz4⟩
      have hzz := sorted_is HO.out.v hz1 hz2
      subst hzz
      have hB1 : Below w.heap.size w w1 := hB.trans (hz4.below hz (fun k hk e => by have := (hown.lt k e).1; omega))
      clear hz4
      go_wp2
      go_ret
      exact ⟨⟨_, rfl, hz3⟩, hB1⟩
end Go.Proofs.Ytgebcnnenhgkcaa
