/- Vote: a vote more, or what speaks against it. -/
import Derived.Deep.RegionHeld3
import Derived.Test.YtgebcnnenhgkcaaGreatB05
import Derived.Test.YtgebcnnenhgkcaaGreatB03
namespace Go.Proofs.YtgebcnnenhgkcaaGreat
open Go.RowKit

def votE (nw : Nat) (ps : List Int) (vs : List Vt) (x : Vt) : Int := if fault nw ps vs x = 0 then manyE vs else fault nw ps vs x
def votV (nw : Nat) (ps : List Int) (vs : List Vt) (x : Vt) : List Vt := if fault nw ps vs x = 0 then manyV vs x else vs

theorem give_at (b : Nat) (S : Nat → Prop) (ws ps : List Int) (vs : List Vt) (wv pv vv : Value) (x : Vt) (w : World) (h : CourtAt w b S 1 ws ps vs wv pv vv) (hT : Tree ps) (hw : 0 < ws.length) (hl : vs.length ≤ 300) :
    Calls Tryz.prog 50 #[.pointer (some ⟨b, 0, none⟩), x.val] w fun e w' => e = .returned (.int .i64 (votE ws.length ps vs x)) ∧
      ∃ (S' : Nat → Prop) (vv' : Value), CourtAt w' b S' 1 ws ps (votV ws.length ps vs x) wv pv vv' ∧ Chg S w w' ∧ (∀ k, S' k → S k ∨ w.heap.size ≤ k) := by
  unfold votE votV
  by_cases hf : fault ws.length ps vs x = 0
  · rw [if_pos hf, if_pos hf]
    exact give_app b S ws ps vs wv pv vv x w h hT hw hl hf
  · rw [if_neg hf, if_neg hf]
    exact give_fault b S ws ps vs wv pv vv x w h hT hw hl _ rfl (by simpa using hf)

theorem votV_len {nw : Nat} {ps : List Int} {vs : List Vt} {x : Vt} (h : vs.length ≤ 300) : (votV nw ps vs x).length ≤ 300 := by
  unfold votV manyV
  split
  · split
    · exact h
    · simp; omega
  · exact h

set_option maxHeartbeats 1000000 in
/-- Vote. -/
theorem vote_at (b : Nat) (S : Nat → Prop) (ws ps : List Int) (vs : List Vt) (wv pv vv : Value) (v s t : Int) (w : World) (h : CourtAt w b S 0 ws ps vs wv pv vv) (hT : Tree ps) (hw : 0 < ws.length) (hl : vs.length ≤ 300) :
    Calls Tryz.prog 13 #[.pointer (some ⟨b, 0, none⟩), .int .i64 v, .int .i64 s, .int .i64 t] w fun e w' => e = .returned (.int .i64 (votE ws.length ps vs ⟨v, s, t⟩)) ∧
      ∃ (S' : Nat → Prop) (vv' : Value), CourtAt w' b S' 0 ws ps (votV ws.length ps vs ⟨v, s, t⟩) wv pv vv' ∧ Chg S w w' ∧ (∀ k, S' k → S k ∨ w.heap.size ≤ k) := by
  obtain ⟨gw, capw, rfl, _, _, _, _⟩ := row_open h.wrow hw
  obtain ⟨h1, c1⟩ := h.setM 1
  have hd : decide (0 < ws.length) = true := by simpa using hw
  go_enter_defers Tryz.func13, Tryz.ntmps13
  go_wp2_with fail
  refine (lock_at b 0 _ h.c0 (h.fz 0)).mono ?_
  rintro e w1 ⟨rfl, hw1⟩
  rw [← hw1] at h1 c1
  clear hw1
  go_wp2_with fail
  refine (made_at b 0 _ _ _ _ h1.c2).mono ?_
  rintro e w2 ⟨rfl, rfl⟩
  rw [hd]
  go_wp2_with fail
  refine (give_at b S ws ps vs _ pv vv ⟨v, s, t⟩ _ h1 hT hw hl).mono ?_
  rintro e w3 ⟨rfl, S', vv', h3, c3, s3⟩
  go_wp2_with fail
  refine leaves_cons (f := 33) (args := #[.pointer (some ⟨b, 0, none⟩)]) (by simp) (by simp [go_sem]) ?_
  refine (unlock_at b 0 .returning _ h3.c0 (h3.fz 0)).mono ?_
  rintro e u' w'' ⟨rfl, rfl, rfl⟩
  obtain ⟨h4, c4⟩ := h3.setM 0
  refine ⟨_, results_tmp rfl _ _ _, rfl, S', vv', h4, (c1.trans c3).then c4 (fun k hk => (s3 k hk).imp id (fun hle => Nat.le_trans c1.size hle)), fun k hk => (s3 k hk).imp id (fun hle => Nat.le_trans c1.size hle)⟩
end Go.Proofs.YtgebcnnenhgkcaaGreat
/- votersFor: all who have voted for a link, rising, in new memory. -/
namespace Go.Proofs.YtgebcnnenhgkcaaGreat
open Go.RowKit

set_option maxHeartbeats 1000000 in
theorem sort_nil (w : World) :
    Calls Tryz.prog 145 #[.slice none 0 0] w fun e w' => e = .returned (.tuple #[]) ∧ w' = w := by
  have h1 : Calls Tryz.prog 164 #[.slice none 0 0, .int .i64 0, .int .i64 0] w fun e w' => e = .returned (.tuple #[]) ∧ w' = w := by
    go_enter Tryz.func164, Tryz.ntmps164
    go_wp2
    go_rounds 1
    go_end0
    exact ⟨rfl, rfl⟩
  have h2 : ∀ k, Calls Tryz.prog 159 #[.slice none 0 0, .int .i64 0, .int .i64 0, .int .i64 k] w fun e w' => e = .returned (.tuple #[]) ∧ w' = w := by
    intro k
    go_enter Tryz.func159, Tryz.ntmps159
    go_wp2
    go_loopw [1, 2] (fun a b wr => a = .int .i64 0 ∧ b = .int .i64 0 ∧ wr = w) (fun _ _ _ => 0)
    case atStart => exact ⟨rfl, rfl, rfl⟩
    case round =>
      obtain ⟨rfl, rfl, rfl⟩ := hrel
      go_wp2_with fail
      refine h1.mono ?_
      rintro e w2 ⟨rfl, rfl⟩
      go_wp2
      refine bodyPost_ret (results_none rfl _ _ _) rfl ?_
      exact ⟨rfl, rfl⟩
  go_enter Tryz.func145, Tryz.ntmps145
  go_wp2_with fail
  refine (len_at 0 (by omega) _).mono ?_
  rintro e w1 ⟨⟨k, rfl⟩, rfl⟩
  go_wp2_with fail
  refine (h2 k).mono ?_
  rintro e w2 ⟨rfl, rfl⟩
  go_wp2
  go_end0
  exact ⟨rfl, rfl⟩

theorem row_nums {w : World} {base g n cap : Nat} {xs : List Int} (h : w.ownsRow base 3 1 (.slice (some ⟨g, 0, none⟩) n cap) n (xs.map I64)) : n = xs.length ∧ Nums w g cap xs.toArray ∧ base ≤ g ∧ n ≤ cap ∧ cap ≤ maxLen := by
  have hn : xs.length = n := by simpa using h.1
  subst hn
  rcases h.2 with ⟨h', _⟩ | ⟨g', cap', cur, h', hb, hg, hle, hm, hs, ht⟩
  · simp at h'
  · simp only [Value.slice.injEq, Option.some.injEq, Addr.mk.injEq, and_true, true_and] at h'
    obtain ⟨rfl, rfl⟩ := h'
    refine ⟨rfl, ⟨cur, hg, by omega, by simpa using hle, fun j hj => ?_⟩, hb, hle, hm⟩
    have hj' : j < xs.length := by simpa using hj
    have h1 : (cur.toList.take (xs.length * 1))[j]? = (xs.map I64)[j]? := by rw [ht]
    rw [List.getElem?_take_of_lt (by omega)] at h1
    simp only [Array.getElem?_toList] at h1
    rw [h1]
    simp [hj']
theorem nums_row {w : World} {base g cap : Nat} {A : Array Int} (h : Nums w g cap A) (hb : base ≤ g) (hm : cap ≤ maxLen) : w.ownsRow base 3 1 (.slice (some ⟨g, 0, none⟩) A.size cap) A.size (A.toList.map I64) := by
  obtain ⟨cur, h1, h2, h3, h4⟩ := h
  refine ⟨by simp, .inr ⟨g, cap, cur, rfl, hb, h1, h3, hm, by omega, ?_⟩⟩
  apply List.ext_getElem?
  intro j
  by_cases hj : j < A.size
  · rw [List.getElem?_take_of_lt (by omega)]
    simp only [Array.getElem?_toList]
    rw [h4 j hj]
    simp [hj]
  · rw [List.getElem?_eq_none (by simp; omega), List.getElem?_eq_none (by simp; omega)]
theorem pairwise_of_get {l : List Int} (h : ∀ p q, p < q → q < l.length → l.toArray[p]! ≤ l.toArray[q]!) : l.Pairwise (fun a b => a ≤ b) := by
  rw [List.pairwise_iff_getElem]
  intro i j hi hj hij
  have := h i j hij hj
  rw [getElem!_pos _ _ (by simpa using hi), getElem!_pos _ _ (by simpa using hj)] at this
  simpa using this

/-- The sort at a row of one's own. -/
theorem sortRow_at (base : Nat) (v : Value) (l : List Int) (w : World) (h : w.ownsRow base 3 1 v l.length (l.map I64)) (hl : l.length ≤ 12) :
    Calls Tryz.prog 145 #[v] w fun e w' => e = .returned (.tuple #[]) ∧ ∃ z : List Int, z.Perm l ∧ z.Pairwise (fun a b => a ≤ b) ∧ w'.ownsRow base 3 1 v z.length (z.map I64) ∧ Chg (fun k => v.ownBlock = some k) w w' := by
  rcases h.2 with ⟨rfl, hn⟩ | ⟨g, cap, cur, rfl, hb, _⟩
  · refine (sort_nil w).mono ?_
    rintro e w' ⟨rfl, rfl⟩
    exact ⟨rfl, l, List.Perm.refl _, by have : l = [] := List.length_eq_zero_iff.1 hn
                                        rw [this]; exact List.Pairwise.nil, h, Chg.refl _ _⟩
  · obtain ⟨_, hN, _, hle, hm⟩ := row_nums h
    have hs : l.toArray.size = l.length := by simp
    have := sort_at g cap l.toArray w hN (by omega)
    rw [hs] at this
    refine this.mono ?_
    rintro e w' ⟨rfl, A', h1, h2, h3, h4⟩
    have hsz : A'.size = l.length := by simpa using h2.length_eq
    refine ⟨rfl, A'.toList, by simpa using h2, pairwise_of_get (fun p q h1 h2 => by simpa using h3 p q h1 (by simpa using h2)), ?_, h4.mono (fun k _ e => by simp [Value.ownBlock]; exact e.symm)⟩
    have hrow := nums_row h1 hb hm
    rw [hsz] at hrow
    have hlen : A'.toList.length = l.length := by simpa using hsz
    rw [hlen]
    exact hrow

theorem cell_two_new (w : World) (o : Obj) (v : Value) (t : TypeId) : ∀ j u, [v][j]? = some u → ((w.alloc o).alloc (.cells #[v] t)).cell? ((⟨w.heap.size + 1, 0, none⟩ : Addr).add j) = some u := by
  have := cell_one_new (w.alloc o) v t
  simpa using this

set_option maxRecDepth 100000 in
set_option maxHeartbeats 2000000 in
theorem votersFor_at (b : Nat) (S : Nat → Prop) (m : Int) (ws ps : List Int) (vs : List Vt) (wv pv vv : Value) (s t : Int) (w : World) (h : CourtAt w b S m ws ps vs wv pv vv) (hw : ws.length ≤ 12) (hl : vs.length ≤ 300) (hO : OkV ws.length ps vs) :
    Calls Tryz.prog 123 #[.pointer (some ⟨b, 0, none⟩), .int .i64 s, .int .i64 t] w fun e w' => (∃ v, e = .returned v ∧ w'.ownsRow w.heap.size 3 1 v (votersL ws.length vs s t).length ((votersL ws.length vs s t).map I64)) ∧ Below w.heap.size w w' := by
  obtain ⟨i0, hi, hz0, hz1, hz2⟩ := info_parts info_int
  have hbl := h.lt b h.inb
  have h4 := h.c4
  have HO : Hid (OkV ws.length ps vs) := hO
  clear hO
  obtain ⟨vp, vc, hvv⟩ : ∃ vp vc, vv = .slice vp vs.length vc := by
    rcases h.vrow.2 with ⟨h', h''⟩ | ⟨g, cap, cur, h', _⟩
    · exact ⟨none, 0, by rw [h', h'']⟩
    · exact ⟨_, _, h'⟩
  subst hvv
  go_enter Tryz.func123, Tryz.ntmps123
  go_wp2
  go_loopw [7, 15] (fun v i wr => ∃ k : Nat, k ≤ vs.length ∧ i = .int .i64 k ∧ Below w.heap.size w wr ∧ wr.ownsRow w.heap.size 3 1 v (onL (vs.take k) s t).length ((onL (vs.take k) s t).map I64)) (fun _ i _ => vs.length - (intOf i).toNat)
  case atStart => exact ⟨0, by omega, rfl, Below.refl _ _, World.ownsRow_nil _ _ _ _⟩
  case round =>
    obtain ⟨k, hk, rfl, hB, hown⟩ := hrel
    have hz := hB.size
    by_cases hlt : k < vs.length
    · obtain ⟨gv, cap, hgv, _, _, hc, _⟩ := vrow_open h.vrow (by omega)
      simp only [Value.slice.injEq, true_and] at hgv
      obtain ⟨rfl, rfl⟩ := hgv
      have hgl : gv < w.heap.size := VCells.lt hc (by omega)
      obtain ⟨y, hy⟩ : ∃ y, vs[k]? = some y := ⟨_, List.getElem?_eq_getElem hlt⟩
      obtain ⟨hc0, hc1, hc2⟩ := VCells.below hc hB hgl k y hy
      have HN : Hid (onL (vs.take (k + 1)) s t = onL (vs.take k) s t ++ (if y.on s t = true then [y.v] else [])) := by
        show _ = _
        rw [List.take_add_one, hy]
        unfold onL
        by_cases e : y.on s t = true
        · simp [List.filter_append, e]
        · simp [List.filter_append, e]
      clear hc hy
      have hlt' : (k : Int) < (vs.length : Int) := by omega
      have hbr : b < wr.heap.size := by omega
      have hBn := hB.alloc hz (.cells #[I64 y.v, I64 y.s, I64 y.t] 47)
      obtain ⟨n, hn⟩ : ∃ n, (onL (vs.take k) s t).length = n := ⟨_, rfl⟩
      have hnk : n ≤ k := by
        rw [← hn]; unfold onL; simp only [List.length_map]
        exact Nat.le_trans (List.length_filter_le _ _) (by simp; omega)
      obtain ⟨xs, hxs⟩ : ∃ xs, (onL (vs.take k) s t).map I64 = xs := ⟨_, rfl⟩
      rw [hn, hxs] at hown
      have HX : Hid ((onL (vs.take k) s t).map I64 = xs) := hxs
      have HL : Hid ((onL (vs.take k) s t).length = n) := hn
      clear hxs hn
      by_cases e1 : y.on s t = true
      · obtain ⟨e2, e3⟩ := Vt.on_iff.1 e1
        have q1 : (y.s == s) = true := by simpa using e2
        have q2 : (y.t == t) = true := by simpa using e3
        have HE : Hid (y.on s t = true) := e1
        clear e1 e2 e3
        have h63 : Hid (n + 1 ≤ maxLen) := by show _ ≤ _; unfold maxLen; omega
        go_wp2_with (at_builtin; refine wpList_append_own _ (by rfl) _ _ _ (by rfl) w.heap.size 3 i0 (I64 0) 1 8 Tryz.underlying22 hi hz0 hz1 hz2 rfl (by omega) _ n xs (by rfl) ((hown.alloc _).alloc _) ⟨wr.heap.size + 1, 0, none⟩ 1 1 [I64 y.v] (by rfl) (by rfl) (cell_two_new _ _ _ _) (by simp [Value.oneCell']) h63.out (by omega) (by simp; omega) ?_; intro v1 w1 hown1 hgrow1 hnil1)
        go_roundw
        case rel => exact ⟨k + 1, by omega, by go_num, (hBn.alloc (by simp; omega) _).grown hgrow1 (by simp; omega) (fun j e => (hown.lt j e).1), by rw [HN.out, if_pos HE.out, List.map_append, HX.out, List.length_append, HL.out]; exact hown1⟩
        case measure => simp [intOf]; omega
      · have e1' : y.on s t = false := by simpa using e1
        by_cases e2 : y.s = s
        · have q1 : (y.s == s) = true := by simpa using e2
          have q2 : (y.t == t) = false := by simpa [Vt.on, e2] using e1'
          have HE : Hid (y.on s t = false) := e1'
          clear e1 e2 e1'
          go_wp2
          go_roundw
          case rel => exact ⟨k + 1, by omega, by go_num, hBn, by rw [HN.out, HE.out]; simp only [Bool.false_eq_true, if_false, List.append_nil]; rw [HX.out, HL.out]; exact hown.alloc _⟩
          case measure => simp [intOf]; omega
        · have q1 : (y.s == s) = false := by simpa using e2
          have HE : Hid (y.on s t = false) := e1'
          clear e1 e2 e1'
          go_wp2
          go_roundw
          case rel => exact ⟨k + 1, by omega, by go_num, hBn, by rw [HN.out, HE.out]; simp only [Bool.false_eq_true, if_false, List.append_nil]; rw [HX.out, HL.out]; exact hown.alloc _⟩
          case measure => simp [intOf]; omega
    · have hk' : k = vs.length := by omega
      subst hk'
      rw [List.take_length] at hown
      go_wp2_with fail
      refine (sortRow_at w.heap.size _ (onL vs s t) _ hown (Nat.le_trans (onL_length HO.out s t) hw)).mono ?_
      rintro e w1 ⟨rfl, z, hz1, hz2, hz3, hz4⟩
      have hzz := sorted_is HO.out.v hz1 hz2
      subst hzz
      have hB1 : Below w.heap.size w w1 := hB.trans (hz4.below hz (fun k hk e => by have := (hown.lt k e).1; omega))
      clear hz4
      go_wp2
      go_ret
      exact ⟨⟨_, rfl, hz3⟩, hB1⟩
end Go.Proofs.YtgebcnnenhgkcaaGreat
/- What is enough: the weight of voters, of all, and of those who voted for a link. -/
namespace Go.Proofs.YtgebcnnenhgkcaaGreat
open Go.RowKit

/-- What weights are. -/
structure OkWs (ws : List Int) : Prop where
  pos : 0 < ws.length
  le : ws.length ≤ 12
  at' : ∀ x ∈ ws, 1 ≤ x ∧ x ≤ 100
theorem okWs_of {ws : List Int} (h : okW ws = true) : OkWs ws := by
  simp only [okW, Bool.and_eq_true, decide_eq_true_eq, List.all_eq_true] at h
  exact ⟨h.1.1, h.1.2, h.2⟩
theorem OkWs.wAt {ws : List Int} (h : OkWs ws) {v : Int} (h1 : v.toNat < ws.length) : 1 ≤ wAt ws v ∧ wAt ws v ≤ 100 := by
  unfold Proofs.YtgebcnnenhgkcaaGreat.wAt
  rw [List.getElem?_eq_getElem h1]
  exact h.at' _ (List.getElem_mem h1)
theorem OkWs.sum {ws : List Int} (h : OkWs ws) : 0 < sumI ws ∧ sumI ws ≤ 1200 := by
  refine ⟨sumI_pos (fun x hx => (h.at' x hx).1) h.pos, ?_⟩
  have := (sumI_bounds (l := ws) (m := 100) (fun x hx => ⟨by have := (h.at' x hx).1; omega, (h.at' x hx).2⟩)).2
  have := h.le
  omega
theorem OkWs.wSum {ws l : List Int} (h : OkWs ws) (hl : ∀ v ∈ l, 0 ≤ v ∧ v < ws.length) : 0 ≤ wSum ws l ∧ wSum ws l ≤ 100 * l.length := by
  have := sumI_bounds (l := l.map (Proofs.YtgebcnnenhgkcaaGreat.wAt ws)) (m := 100) (fun x hx => by
    obtain ⟨v, hv, rfl⟩ := List.mem_map.1 hx
    have h1 := hl v hv
    have := h.wAt (v := v) (by omega)
    omega)
  simpa [Proofs.YtgebcnnenhgkcaaGreat.wSum] using this

theorem total_at (g c : Nat) (ws : List Int) (w : World) (hx : ∀ j, j < ws.length → w.cell? ⟨g, j, none⟩ = some (I64 (ws[j]?.getD 0))) (hW : OkWs ws) :
    Calls Tryz.prog 158 #[.slice (some ⟨g, 0, none⟩) ws.length c] w fun e w' => e = .returned (.int .i64 (sumI ws)) ∧ w' = w := by
  have HX : Hid (∀ j, j < ws.length → w.cell? ⟨g, j, none⟩ = some (I64 (ws[j]?.getD 0))) := hx
  clear hx
  have hl := hW.le
  have HW : Hid (∀ x ∈ ws, 1 ≤ x ∧ x ≤ 100) := hW.at'
  go_enter Tryz.func158, Tryz.ntmps158
  go_wp2
  go_loop [3, 8] (fun t i => ∃ (k : Nat) (n : Int), k ≤ ws.length ∧ i = .int .i64 k ∧ t = .int .i64 n ∧ Hid (n = sumI (ws.take k)) ∧ 0 ≤ n ∧ n ≤ 100 * k) (fun _ i => ws.length - (intOf i).toNat)
  case atStart => exact ⟨0, 0, by omega, rfl, rfl, by simp [Hid, sumI_nil], by omega, by omega⟩
  case round =>
    obtain ⟨k, n, hk, rfl, rfl, hn, hn0, hn1⟩ := hrel
    by_cases hlt : k < ws.length
    · have hlt' : (k : Int) < (ws.length : Int) := by omega
      obtain ⟨x, hxk⟩ : ∃ x, ws[k]? = some x := ⟨_, List.getElem?_eq_getElem hlt⟩
      have hc : w.cell? ⟨g, k, none⟩ = some (I64 x) := by rw [HX.out k hlt, hxk]; rfl
      have hb := HW.out x (List.mem_of_getElem? hxk)
      have HN : Hid (n + x = sumI (ws.take (k + 1))) := by show _ = _; rw [sumI_take _ _ _ hxk, hn.out]
      clear hxk
      go_wp2
      go_round
      case rel => exact ⟨k + 1, n + x, by omega, by go_num, by go_num, HN, by omega, by omega⟩
      case measure => simp [intOf]; omega
    · go_wp2
      go_ret
      have hn' := hn.out
      rw [List.take_of_length_le (by omega)] at hn'
      exact ⟨by rw [← hn']; rfl, rfl⟩

theorem enoughW_at (g c : Nat) (ws : List Int) (p : Int) (w : World) (hx : ∀ j, j < ws.length → w.cell? ⟨g, j, none⟩ = some (I64 (ws[j]?.getD 0))) (hW : OkWs ws) (hp0 : 0 ≤ p) (hp1 : p ≤ 30000) :
    Calls Tryz.prog 142 #[.slice (some ⟨g, 0, none⟩) ws.length c, .int .i64 p] w fun e w' => e = .returned (.bool (decide (2 * sumI ws ≤ 3 * p))) ∧ w' = w := by
  obtain ⟨hs0, hs1⟩ := hW.sum
  go_enter Tryz.func142, Tryz.ntmps142
  go_wp2_with fail
  refine (total_at g c ws _ hx hW).mono ?_
  rintro e w1 ⟨rfl, rfl⟩
  clear hx
  obtain ⟨n, hn⟩ : ∃ n, sumI ws = n := ⟨_, rfl⟩
  rw [hn] at hs0 hs1 ⊢
  go_wp2
  go_ret
  exact ⟨by rw [hn]; rfl, rfl⟩

theorem row_low {w : World} {base : Nat} {e : TypeId} {size : Nat} {v : Value} {n : Nat} {xs : List Value} (h : w.ownsRow base e size v n xs) : w.ownsRow 0 e size v n xs := by
  refine ⟨h.1, ?_⟩
  rcases h.2 with h' | ⟨g, cap, cur, h1, _, h2⟩
  · exact .inl h'
  · exact .inr ⟨g, cap, cur, h1, Nat.zero_le _, h2⟩

theorem of_at (g c : Nat) (v : Value) (ws l : List Int) (w : World) (hx : ∀ j, j < ws.length → w.cell? ⟨g, j, none⟩ = some (I64 (ws[j]?.getD 0))) (hW : OkWs ws) (hr : w.ownsRow 0 3 1 v l.length (l.map I64)) (hl : ∀ v ∈ l, 0 ≤ v ∧ v < ws.length) (hl2 : l.length ≤ 300) :
    Calls Tryz.prog 143 #[.slice (some ⟨g, 0, none⟩) ws.length c, v] w fun e w' => e = .returned (.int .i64 (wSum ws l)) ∧ w' = w := by
  have HX : Hid (∀ j, j < ws.length → w.cell? ⟨g, j, none⟩ = some (I64 (ws[j]?.getD 0))) := hx
  clear hx
  have HL : Hid (∀ v ∈ l, 0 ≤ v ∧ v < ws.length) := hl
  clear hl
  have hle := hW.le
  have HW := hW
  obtain ⟨vp, vc, hvv⟩ : ∃ vp vc, v = .slice vp l.length vc := by
    rcases hr.2 with ⟨h', h''⟩ | ⟨g, cap, cur, h', _⟩
    · exact ⟨none, 0, by rw [h', h'']⟩
    · exact ⟨_, _, h'⟩
  subst hvv
  go_enter Tryz.func143, Tryz.ntmps143
  go_wp2
  go_loop [5, 10] (fun t i => ∃ (k : Nat) (n : Int), k ≤ l.length ∧ i = .int .i64 k ∧ t = .int .i64 n ∧ Hid (n = wSum ws (l.take k)) ∧ 0 ≤ n ∧ n ≤ 100 * k) (fun _ i => l.length - (intOf i).toNat)
  case atStart => exact ⟨0, 0, by omega, rfl, rfl, by simp [Hid, wSum, sumI_nil], by omega, by omega⟩
  case round =>
    obtain ⟨k, n, hk, rfl, rfl, hn, hn0, hn1⟩ := hrel
    by_cases hlt : k < l.length
    · have hlt' : (k : Int) < (l.length : Int) := by omega
      obtain ⟨gl, capl, hgl, _, _, hcl, _⟩ := row_open hr (by omega)
      simp only [Value.slice.injEq, true_and] at hgl
      obtain ⟨rfl, rfl⟩ := hgl
      obtain ⟨y, hy⟩ : ∃ y, l[k]? = some y := ⟨_, List.getElem?_eq_getElem hlt⟩
      have hc : w.cell? ⟨gl, k, none⟩ = some (I64 y) := by rw [hcl k hlt, hy]; rfl
      obtain ⟨y0, y1⟩ := HL.out y (List.mem_of_getElem? hy)
      obtain ⟨x, hxk⟩ : ∃ x, wAt ws y = x := ⟨_, rfl⟩
      have hcx : w.cell? ⟨g, y.toNat, none⟩ = some (I64 x) := by rw [← hxk]; exact HX.out _ (by omega)
      have hb := hW.wAt (v := y) (by omega)
      rw [hxk] at hb
      have HN : Hid (n + x = wSum ws (l.take (k + 1))) := by show _ = _; rw [wSum_take _ _ _ _ hy, hn.out, hxk]
      clear hxk hcl hy
      go_wp2
      go_round
      case rel => exact ⟨k + 1, n + x, by omega, by go_num, by go_num, HN, by omega, by omega⟩
      case measure => simp [intOf]; omega
    · go_wp2
      go_ret
      have hn' := hn.out
      rw [List.take_of_length_le (by omega)] at hn'
      exact ⟨by rw [← hn']; rfl, rfl⟩

set_option maxRecDepth 100000 in
set_option maxHeartbeats 2000000 in
theorem enough_at (b : Nat) (S : Nat → Prop) (m : Int) (ws ps : List Int) (vs : List Vt) (wv pv vv : Value) (s t : Int) (w : World) (h : CourtAt w b S m ws ps vs wv pv vv) (hW : OkWs ws) (hl : vs.length ≤ 300) (hO : OkV ws.length ps vs) :
    Calls Tryz.prog 120 #[.pointer (some ⟨b, 0, none⟩), .int .i64 s, .int .i64 t] w fun e w' => e = .returned (.bool (linkB ws vs s t)) ∧ Below w.heap.size w w' := by
  obtain ⟨gw, capw, rfl, _, _, hcw, _⟩ := row_open h.wrow hW.pos
  have hbl := h.lt b h.inb
  have h2 := h.c2
  have hgwl : gw < w.heap.size := World.block_lt_of_cell? w _ (hcw 0 hW.pos)
  have HCW : Hid (∀ j, j < ws.length → w.cell? ⟨gw, j, none⟩ = some (I64 (ws[j]?.getD 0))) := hcw
  clear hcw
  go_enter Tryz.func120, Tryz.ntmps120
  have hCd : CourtAt w.drew b S m ws ps vs (.slice (some ⟨gw, 0, none⟩) ws.length capw) pv vv := h.kept (Chg.drew (Chg.refl (fun _ => False) _)) (fun _ _ hf => hf)
  have hp12 := hW.le
  obtain ⟨q, hOf, hEn⟩ : ∃ q : Int, (∀ (v : Value) (W : World), (∀ j, j < ws.length → W.cell? ⟨gw, j, none⟩ = some (I64 (ws[j]?.getD 0))) → W.ownsRow w.heap.size 3 1 v (votersL ws.length vs s t).length ((votersL ws.length vs s t).map I64) → Calls Tryz.prog 143 #[.slice (some ⟨gw, 0, none⟩) ws.length capw, v] W fun e w' => e = .returned (.int .i64 q) ∧ w' = W) ∧
      (∀ W : World, (∀ j, j < ws.length → W.cell? ⟨gw, j, none⟩ = some (I64 (ws[j]?.getD 0))) → Calls Tryz.prog 142 #[.slice (some ⟨gw, 0, none⟩) ws.length capw, .int .i64 q] W fun e w' => e = .returned (.bool (linkB ws vs s t)) ∧ w' = W) := by
    have hlen : (votersL ws.length vs s t).length ≤ 12 := by
      rw [(votersL_perm hO.v s t).length_eq]; exact Nat.le_trans (onL_length hO s t) hp12
    have hbnd := hW.wSum (l := votersL ws.length vs s t) (fun v hv => mem_votersL hv)
    refine ⟨wSum ws (votersL ws.length vs s t), fun v W hx hr => of_at gw capw v ws _ W hx hW (row_low hr) (fun v hv => mem_votersL hv) (by omega), fun W hx => ?_⟩
    have := enoughW_at gw capw ws (wSum ws (votersL ws.length vs s t)) W hx hW hbnd.1 (by omega)
    rw [wSum_perm ws (votersL_perm hO.v s t)] at this ⊢
    exact this
  go_wp2_with fail
  go_region_held3 (fun w' => w'.cell? ⟨b, 2, none⟩ = some (.slice (some ⟨gw, 0, none⟩) ws.length capw))
    (first | assumption | simpa)
    ((first
      | (go_at_call 123; refine (votersFor_at b S m ws ps vs _ pv vv s t _ hCd hp12 hl hO).mono ?_; rintro e w2 ⟨⟨v, rfl, hrow⟩, hB2⟩
         have f2 : w2.cell? ⟨b, 2, none⟩ = some (.slice (some ⟨gw, 0, none⟩) ws.length capw) := (hB2.cell (p := ⟨b, 2, none⟩) hbl).trans h2)
      | (go_at_call 143; refine (hOf v _ (fun j hj => (hB2.cell (p := ⟨gw, j, none⟩) hgwl).trans (HCW.out j hj)) hrow).mono ?_; rintro e w3 ⟨rfl, rfl⟩)
      | (go_at_call 142; refine (hEn _ (fun j hj => (hB2.cell (p := ⟨gw, j, none⟩) hgwl).trans (HCW.out j hj))).mono ?_; rintro e w4 ⟨rfl, rfl⟩)))
  go_wp2
  go_ret
  exact ⟨rfl, (Below.refl w.heap.size w).drew.trans hB2⟩
end Go.Proofs.YtgebcnnenhgkcaaGreat
