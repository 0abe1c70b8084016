/- The document's own answer: Right, of links that lie anywhere. -/
import Derived.Test.YtgebcnnenhgkcaaGreatB20
import Derived.Test.YtgebcnnenhgkcaaGreatB12
namespace Go.Proofs.YtgebcnnenhgkcaaGreat
open Go.RowKit Go.Shelf

/-- Links that lie from a place of a block on, each with its voters. -/
structure LkAt (w : World) (p : Option Addr) (X : List LkV) : Prop where
  at' : X = [] ∨ ∃ g o, p = some ⟨g, o, none⟩ ∧ ∀ j x, X[j]? = some x → w.cell? ⟨g, o + j * 3, none⟩ = some (I64 x.1.s) ∧ w.cell? ⟨g, o + j * 3 + 1, none⟩ = some (I64 x.1.t) ∧ w.cell? ⟨g, o + j * 3 + 2, none⟩ = some x.2
  vs : ∀ x ∈ X, ∃ p c, x.2 = .slice p x.1.vs.length c ∧ IntsAt w p x.1.vs ∧ x.1.vs.length ≤ maxLen
theorem IntsAt.below' {w w' : World} {p : Option Addr} {xs : List Int} (h : IntsAt w p xs) (hB : Below w.heap.size w w') : IntsAt w' p xs := by
  rcases h with e | ⟨g, o, e, hc⟩
  · exact .inl e
  · exact .inr ⟨g, o, e, fun j hj => (hB.cell (p := ⟨g, o + j, none⟩) (World.block_lt_of_cell? w _ (hc j hj))).trans (hc j hj)⟩
theorem LkAt.below {w w' : World} {p : Option Addr} {X : List LkV} (h : LkAt w p X) (hB : Below w.heap.size w w') : LkAt w' p X := by
  refine ⟨?_, fun x hx => ?_⟩
  · rcases h.at' with e | ⟨g, o, e, hc⟩
    · exact .inl e
    · refine .inr ⟨g, o, e, fun j x hj => ?_⟩
      obtain ⟨h0, h1, h2⟩ := hc j x hj
      have hg := World.block_lt_of_cell? w _ h0
      exact ⟨(hB.cell (p := ⟨g, o + j * 3, none⟩) hg).trans h0, (hB.cell (p := ⟨g, o + j * 3 + 1, none⟩) hg).trans h1, (hB.cell (p := ⟨g, o + j * 3 + 2, none⟩) hg).trans h2⟩
  · obtain ⟨p', c, e, hi, hm⟩ := h.vs x hx
    exact ⟨p', c, e, hi.below' hB, hm⟩
/-- A chain's end lies in the tree. -/
theorem chain_end {ws ps : List Int} : ∀ {L : List Lk} {a : Int}, 0 ≤ a → a.toNat < ps.length → chainB ws ps a L = true → 0 ≤ endL a L ∧ (endL a L).toNat < ps.length := by
  intro L
  induction L with
  | nil => intro a h0 h1 _; exact ⟨h0, h1⟩
  | cons l r ih =>
    intro a _ _ h
    simp only [chainB, Bool.and_eq_true] at h
    have h1 := h.1
    unfold okL inB at h1
    simp only [Bool.and_eq_true, decide_eq_true_eq] at h1
    exact ih h1.2.1.1.1 (by omega) h.2

set_option maxRecDepth 100000 in
set_option maxHeartbeats 8000000 in
theorem rRight_at (b gw ow cw gp op cp : Nat) (ws ps : List Int) (X : List LkV) (p : Option Addr) (c : Nat) (w : World) (h : RIn w b gw ow cw gp op cp ws ps) (hT : Tree ps) (hW : OkWs ws) (hL : LkAt w p X) (hm : X.length ≤ maxLen) :
    Calls Tryz.prog 81 #[.pointer (some ⟨b, 0, none⟩), .slice p X.length c] w fun e w' => e = .returned (.bool (rightB ws ps (X.map (fun x => x.1)))) ∧ Below w.heap.size w w' := by
  have hml : X.length ≤ 9223372036854775807 := by unfold maxLen at hm; omega
  clear hm
  have hT2 := hT.2.1
  have hw12 := hW.le
  have HN : Hid ((X.map (fun x => x.1)).length = X.length) := by simp [Hid]
  by_cases hn1 : X.length < 1
  · have hn1' : (X.length : Int) < 1 := by omega
    have HB : Hid (rightB ws ps (X.map (fun x => x.1)) = false) := by show _ = _; unfold rightB; rw [HN.out]; simp; omega
    go_enter Tryz.func81, Tryz.ntmps81
    go_wp2
    go_ret
    exact ⟨by rw [HB.out]; rfl, Below.refl _ _⟩
  have hn1' : ¬ (X.length : Int) < 1 := by omega
  by_cases hn2 : X.length > 40
  · have hn2' : (X.length : Int) > 40 := by omega
    have HB : Hid (rightB ws ps (X.map (fun x => x.1)) = false) := by show _ = _; unfold rightB; rw [HN.out]; simp; omega
    go_enter Tryz.func81, Tryz.ntmps81
    go_wp2
    go_ret
    exact ⟨by rw [HB.out]; rfl, Below.refl _ _⟩
  have hn2' : ¬ (X.length : Int) > 40 := by omega
  have HRT : Hid (rightB ws ps (X.map (fun x => x.1)) = (chainB ws ps 0 (X.map (fun x => x.1)) && (ps[(endL 0 (X.map (fun x => x.1))).toNat]?.getD 0 == lastS (X.map (fun x => x.1))))) := by
    show _ = _
    unfold rightB
    rw [HN.out]
    have q1 : decide (1 ≤ X.length) = true := by simp; omega
    have q2 : decide (X.length ≤ 40) = true := by simp; omega
    rw [q1, q2]; rfl
  go_enter Tryz.func81, Tryz.ntmps81
  go_wp2_with fail
  go_loopw [6, 7] (fun aa ii wr => ∃ (k : Nat) (a : Int), k ≤ X.length ∧ ii = .int .i64 k ∧ aa = .int .i64 a ∧ Below w.heap.size w wr ∧ Hid (chainB ws ps 0 ((X.map (fun x => x.1)).take k) = true) ∧ Hid (endL 0 ((X.map (fun x => x.1)).take k) = a)) (fun _ ii _ => X.length - (intOf ii).toNat)
  case atStart => exact ⟨0, 0, by omega, rfl, rfl, Below.refl _ _, rfl, rfl⟩
  case round =>
    obtain ⟨k, a, hk, rfl, rfl, hB, HCH, HEN⟩ := hrel
    have hR := h.below hT hB
    have hLr := hL.below hB
    by_cases hlt : k < X.length
    · have hlt' : (k : Int) < (X.length : Int) := by omega
      rcases hLr.at' with rfl | ⟨g, o, rfl, hcs⟩
      · simp at hlt
      obtain ⟨x, hx⟩ : ∃ x, X[k]? = some x := ⟨_, List.getElem?_eq_getElem hlt⟩
      obtain ⟨x0, x1, x2⟩ := hcs k x hx
      obtain ⟨pv, cv, hxv, hiv, hvm⟩ := hLr.vs x (List.mem_of_getElem? hx)
      rw [hxv] at x2
      have hxL : (X.map (fun x => x.1))[k]? = some x.1 := by simp [hx]
      have HTK : Hid (chainB ws ps 0 ((X.map (fun x => x.1)).take (k + 1)) = okL ws ps a x.1) := by show _ = _; rw [chainB_take hxL, HCH.out, HEN.out, Bool.true_and]
      have HEK : Hid (endL 0 ((X.map (fun x => x.1)).take (k + 1)) = x.1.t) := endL_take hxL
      have HF : Hid (okL ws ps a x.1 = false → rightB ws ps (X.map (fun x => x.1)) = false) := fun hf => by
        rw [HRT.out, chainB_prefix (k := k + 1) (by rw [HTK.out]; exact hf), Bool.false_and]
      have c1 := hR.tr.pv
      obtain ⟨⟨s, t, V⟩, u⟩ := x
      dsimp only at x0 x1 x2 hxv hiv hvm HTK HEK HF
      have hgl : g < wr.heap.size := World.block_lt_of_cell? wr _ x0
      clear hcs hx hxL HCH HEN HRT hL h hLr
      by_cases e1 : s = a
      · have q1 : (s != a) = false := by simpa using e1
        by_cases e2 : t < 0
        · have HB : Hid (rightB ws ps (X.map (fun x => x.1)) = false) := HF.out (by unfold okL inB; simp; intros; omega)
          clear e1 HF HTK HEK
          go_wp2_with fail
          refine wp_region_held_drew (S := fun w' => w'.cell? ⟨g, o + k * 3, none⟩ = some (I64 s) ∧ w'.cell? ⟨g, o + k * 3 + 1, none⟩ = some (I64 t) ∧ w'.cell? ⟨b, 1, none⟩ = some (.slice (some ⟨gp, op, none⟩) ps.length cp)) (by kernel_rfl) ⟨x0, x1, c1⟩ (fun hHeld => ?_)
          refine takeH (i := 0) (v := ?vv1) rfl (by kernel_rfl) (by kernel_rfl) (by kernel_rfl) (fun _ _ _ h => h) (Or.inl ⟨by rfl, ?hy1⟩) (by assumption) ?rest1
          case hy1 => (intro w hSw; (try dsimp only at hSw); go_simp; try with_reducible rfl)
          try simp only [Act.put, List.setIfInBounds_toArray, List.set_cons_zero, List.set_cons_succ]
          refine takeH (i := 1) (v := ?vv2) rfl (by kernel_rfl) (by kernel_rfl) (by kernel_rfl) (fun _ _ _ h => h) (Or.inl ⟨by rfl, ?hy2⟩) (by assumption) ?rest2
          case hy2 => (intro w hSw; (try dsimp only at hSw); go_simp; try with_reducible rfl)
          try simp only [Act.put, List.setIfInBounds_toArray, List.set_cons_zero, List.set_cons_succ]
          refine takeH (i := 2) (v := ?vv3) rfl (by kernel_rfl) (by kernel_rfl) (by kernel_rfl) (fun _ _ _ h => h) (Or.inl ⟨by rfl, ?hy3⟩) (by assumption) ?rest3
          case hy3 => (intro w hSw; (try dsimp only at hSw); go_simp; try with_reducible rfl)
          try simp only [Act.put, List.setIfInBounds_toArray, List.set_cons_zero, List.set_cons_succ]
          refine takeH (i := 3) (v := ?vv4) rfl (by kernel_rfl) (by kernel_rfl) (by kernel_rfl) (fun _ _ _ h => h) (Or.inl ⟨by rfl, ?hy4⟩) (by assumption) ?rest4
          case hy4 => (intro w hSw; (try dsimp only at hSw); go_simp; try with_reducible rfl)
          try simp only [Act.put, List.setIfInBounds_toArray, List.set_cons_zero, List.set_cons_succ]
          refine takeH (i := 4) (v := ?vv5) rfl (by kernel_rfl) (by kernel_rfl) (by kernel_rfl) (fun _ _ _ h => h) (Or.inl ⟨by rfl, ?hy5⟩) (by assumption) ?rest5
          case hy5 => (intro w hSw; (try dsimp only at hSw); go_simp; try with_reducible rfl)
          try simp only [Act.put, List.setIfInBounds_toArray, List.set_cons_zero, List.set_cons_succ]
          refine takeH (i := 5) (v := ?vv6) rfl (by kernel_rfl) (by kernel_rfl) (by kernel_rfl) (fun _ _ _ h => h) (Or.inl ⟨by rfl, ?hy6⟩) (by assumption) ?rest6
          case hy6 => (intro w hSw; (try dsimp only at hSw); go_simp; try with_reducible rfl)
          try simp only [Act.put, List.setIfInBounds_toArray, List.set_cons_zero, List.set_cons_succ]
          refine takeH (i := 6) (v := .bool false) rfl (by kernel_rfl) (by kernel_rfl) (by kernel_rfl) (fun _ _ _ h => h) (Or.inl ⟨by rfl, ?hy7⟩) (by assumption) ?rest7
          case hy7 => (intro w hSw; (try dsimp only at hSw); go_simp; try simp [*]; try omega)
          try simp only [Act.put, List.setIfInBounds_toArray, List.set_cons_zero, List.set_cons_succ]
          refine takeH (i := 7) (v := ?vv8) rfl (by kernel_rfl) (by kernel_rfl) (by kernel_rfl) (fun _ _ _ h => h) (Or.inl ⟨by rfl, ?hy8⟩) (by assumption) ?rest8
          case hy8 => (intro w hSw; (try dsimp only at hSw); go_simp; try with_reducible rfl)
          try simp only [Act.put, List.setIfInBounds_toArray, List.set_cons_zero, List.set_cons_succ]
          refine takeH (i := 8) (v := ?vv9) rfl (by kernel_rfl) (by kernel_rfl) (by kernel_rfl) (fun _ _ _ h => h) (Or.inl ⟨by rfl, ?hy9⟩) (by assumption) ?rest9
          case hy9 => (intro w hSw; (try dsimp only at hSw); go_simp; try with_reducible rfl)
          try simp only [Act.put, List.setIfInBounds_toArray, List.set_cons_zero, List.set_cons_succ]
          refine takeH (i := 9) (v := ?vv10) rfl (by kernel_rfl) (by kernel_rfl) (by kernel_rfl) (fun _ _ _ h => h) (Or.inl ⟨by rfl, ?hy10⟩) (by assumption) ?rest10
          case hy10 => (intro w hSw; (try dsimp only at hSw); go_simp; try with_reducible rfl)
          try simp only [Act.put, List.setIfInBounds_toArray, List.set_cons_zero, List.set_cons_succ]
          refine takeH (i := 10) (v := ?vv11) rfl (by kernel_rfl) (by kernel_rfl) (by kernel_rfl) (fun _ _ _ h => h) (Or.inl ⟨by rfl, ?hy11⟩) (by assumption) ?rest11
          case hy11 => (intro w hSw; (try dsimp only at hSw); go_simp; try with_reducible rfl)
          try simp only [Act.put, List.setIfInBounds_toArray, List.set_cons_zero, List.set_cons_succ]
          refine takeH (i := 11) (v := ?vv12) rfl (by kernel_rfl) (by kernel_rfl) (by kernel_rfl) (fun _ _ _ h => h) (Or.inl ⟨by rfl, ?hy12⟩) (by assumption) ?rest12
          case hy12 => (intro w hSw; (try dsimp only at hSw); go_simp; try with_reducible rfl)
          try simp only [Act.put, List.setIfInBounds_toArray, List.set_cons_zero, List.set_cons_succ]
          refine takeH (i := 12) (v := ?vv13) rfl (by kernel_rfl) (by kernel_rfl) (by kernel_rfl) (fun _ _ _ h => h) (Or.inl ⟨by rfl, ?hy13⟩) (by assumption) ?rest13
          case hy13 => (intro w hSw; (try dsimp only at hSw); go_simp; try with_reducible rfl)
          try simp only [Act.put, List.setIfInBounds_toArray, List.set_cons_zero, List.set_cons_succ]
          refine takeH (i := 13) (v := .bool true) rfl (by kernel_rfl) (by kernel_rfl) (by kernel_rfl) (fun _ _ _ h => h) (Or.inl ⟨by rfl, ?hy14⟩) (by assumption) ?rest14
          case hy14 => (intro w hSw; (try dsimp only at hSw); go_simp; try simp [*]; try omega)
          try simp only [Act.put, List.setIfInBounds_toArray, List.set_cons_zero, List.set_cons_succ]
          refine takeH (i := 14) (v := ?vv15) rfl (by kernel_rfl) (by kernel_rfl) (by kernel_rfl) (fun _ _ _ h => h) (Or.inl ⟨by rfl, ?hy15⟩) (by assumption) ?rest15
          case hy15 => (intro w hSw; (try dsimp only at hSw); go_simp; try with_reducible rfl)
          try simp only [Act.put, List.setIfInBounds_toArray, List.set_cons_zero, List.set_cons_succ]
          refine takeH (i := 15) (v := ?vv16) rfl (by kernel_rfl) (by kernel_rfl) (by kernel_rfl) (fun _ _ _ h => h) (Or.inl ⟨by rfl, ?hy16⟩) (by assumption) ?rest16
          case hy16 => (intro w hSw; (try dsimp only at hSw); go_simp; try with_reducible rfl)
          try simp only [Act.put, List.setIfInBounds_toArray, List.set_cons_zero, List.set_cons_succ]
          refine takeH (i := 16) (v := undef) rfl (by kernel_rfl) (by kernel_rfl) (by kernel_rfl) (fun _ _ _ h => h) (Or.inr ⟨by rfl, rfl⟩) (by assumption) ?rest17
          try simp only [Act.put, List.setIfInBounds_toArray, List.set_cons_zero, List.set_cons_succ]
          refine takeH (i := 17) (v := undef) rfl (by kernel_rfl) (by kernel_rfl) (by kernel_rfl) (fun _ _ _ h => h) (Or.inr ⟨by rfl, rfl⟩) (by assumption) ?rest18
          try simp only [Act.put, List.setIfInBounds_toArray, List.set_cons_zero, List.set_cons_succ]
          refine takeH (i := 18) (v := undef) rfl (by kernel_rfl) (by kernel_rfl) (by kernel_rfl) (fun _ _ _ h => h) (Or.inr ⟨by rfl, rfl⟩) (by assumption) ?rest19
          try simp only [Act.put, List.setIfInBounds_toArray, List.set_cons_zero, List.set_cons_succ]
          refine takeH (i := 19) (v := undef) rfl (by kernel_rfl) (by kernel_rfl) (by kernel_rfl) (fun _ _ _ h => h) (Or.inr ⟨by rfl, rfl⟩) (by assumption) ?rest20
          try simp only [Act.put, List.setIfInBounds_toArray, List.set_cons_zero, List.set_cons_succ]
          refine takeH (i := 20) (v := undef) rfl (by kernel_rfl) (by kernel_rfl) (by kernel_rfl) (fun _ _ _ h => h) (Or.inr ⟨by rfl, rfl⟩) (by assumption) ?rest21
          try simp only [Act.put, List.setIfInBounds_toArray, List.set_cons_zero, List.set_cons_succ]
          refine takeH (i := 21) (v := undef) rfl (by kernel_rfl) (by kernel_rfl) (by kernel_rfl) (fun _ _ _ h => h) (Or.inr ⟨by rfl, rfl⟩) (by assumption) ?rest22
          try simp only [Act.put, List.setIfInBounds_toArray, List.set_cons_zero, List.set_cons_succ]
          refine takeH (i := 22) (v := undef) rfl (by kernel_rfl) (by kernel_rfl) (by kernel_rfl) (fun _ _ _ h => h) (Or.inr ⟨by rfl, rfl⟩) (by assumption) ?rest23
          try simp only [Act.put, List.setIfInBounds_toArray, List.set_cons_zero, List.set_cons_succ]
          refine takeH (i := 23) (v := undef) rfl (by kernel_rfl) (by kernel_rfl) (by kernel_rfl) (fun _ _ _ h => h) (Or.inr ⟨by rfl, rfl⟩) (by assumption) ?rest24
          try simp only [Act.put, List.setIfInBounds_toArray, List.set_cons_zero, List.set_cons_succ]
          refine takeH (i := 24) (v := undef) rfl (by kernel_rfl) (by kernel_rfl) (by kernel_rfl) (fun _ _ _ h => h) (Or.inr ⟨by rfl, rfl⟩) (by assumption) ?rest25
          try simp only [Act.put, List.setIfInBounds_toArray, List.set_cons_zero, List.set_cons_succ]
          refine takeH (i := 25) (v := undef) rfl (by kernel_rfl) (by kernel_rfl) (by kernel_rfl) (fun _ _ _ h => h) (Or.inr ⟨by rfl, rfl⟩) (by assumption) ?rest26
          try simp only [Act.put, List.setIfInBounds_toArray, List.set_cons_zero, List.set_cons_succ]
          refine takeH (i := 26) (v := undef) rfl (by kernel_rfl) (by kernel_rfl) (by kernel_rfl) (fun _ _ _ h => h) (Or.inr ⟨by rfl, rfl⟩) (by assumption) ?rest27
          try simp only [Act.put, List.setIfInBounds_toArray, List.set_cons_zero, List.set_cons_succ]
          refine takeH (i := 27) (v := ?vv28) rfl (by kernel_rfl) (by kernel_rfl) (by kernel_rfl) (fun _ _ _ h => h) (Or.inl ⟨by rfl, ?hy28⟩) (by assumption) ?rest28
          case hy28 => (intro w hSw; (try dsimp only at hSw); go_simp; try with_reducible rfl)
          try simp only [Act.put, List.setIfInBounds_toArray, List.set_cons_zero, List.set_cons_succ]
          clear hHeld
          refine wpAnyH_done (by kernel_rfl) ?_ _
          go_wp2
          go_ret
          exact ⟨by rw [HB.out]; rfl, hB.drew⟩
        · by_cases e3 : t ≥ (ps.length : Int)
          · have HB : Hid (rightB ws ps (X.map (fun x => x.1)) = false) := HF.out (by unfold okL inB; have : ¬ t < (ps.length : Int) := (by omega); simp [this])
            clear e1 HF HTK HEK
            go_wp2_with fail
            refine wp_region_held_drew (S := fun w' => w'.cell? ⟨g, o + k * 3, none⟩ = some (I64 s) ∧ w'.cell? ⟨g, o + k * 3 + 1, none⟩ = some (I64 t) ∧ w'.cell? ⟨b, 1, none⟩ = some (.slice (some ⟨gp, op, none⟩) ps.length cp)) (by kernel_rfl) ⟨x0, x1, c1⟩ (fun hHeld => ?_)
            refine takeH (i := 0) (v := ?vv29) rfl (by kernel_rfl) (by kernel_rfl) (by kernel_rfl) (fun _ _ _ h => h) (Or.inl ⟨by rfl, ?hy29⟩) (by assumption) ?rest29
            case hy29 => (intro w hSw; (try dsimp only at hSw); go_simp; try with_reducible rfl)
            try simp only [Act.put, List.setIfInBounds_toArray, List.set_cons_zero, List.set_cons_succ]
            refine takeH (i := 1) (v := ?vv30) rfl (by kernel_rfl) (by kernel_rfl) (by kernel_rfl) (fun _ _ _ h => h) (Or.inl ⟨by rfl, ?hy30⟩) (by assumption) ?rest30
            case hy30 => (intro w hSw; (try dsimp only at hSw); go_simp; try with_reducible rfl)
            try simp only [Act.put, List.setIfInBounds_toArray, List.set_cons_zero, List.set_cons_succ]
            refine takeH (i := 2) (v := ?vv31) rfl (by kernel_rfl) (by kernel_rfl) (by kernel_rfl) (fun _ _ _ h => h) (Or.inl ⟨by rfl, ?hy31⟩) (by assumption) ?rest31
            case hy31 => (intro w hSw; (try dsimp only at hSw); go_simp; try with_reducible rfl)
            try simp only [Act.put, List.setIfInBounds_toArray, List.set_cons_zero, List.set_cons_succ]
            refine takeH (i := 3) (v := ?vv32) rfl (by kernel_rfl) (by kernel_rfl) (by kernel_rfl) (fun _ _ _ h => h) (Or.inl ⟨by rfl, ?hy32⟩) (by assumption) ?rest32
            case hy32 => (intro w hSw; (try dsimp only at hSw); go_simp; try with_reducible rfl)
            try simp only [Act.put, List.setIfInBounds_toArray, List.set_cons_zero, List.set_cons_succ]
            refine takeH (i := 4) (v := ?vv33) rfl (by kernel_rfl) (by kernel_rfl) (by kernel_rfl) (fun _ _ _ h => h) (Or.inl ⟨by rfl, ?hy33⟩) (by assumption) ?rest33
            case hy33 => (intro w hSw; (try dsimp only at hSw); go_simp; try with_reducible rfl)
            try simp only [Act.put, List.setIfInBounds_toArray, List.set_cons_zero, List.set_cons_succ]
            refine takeH (i := 5) (v := ?vv34) rfl (by kernel_rfl) (by kernel_rfl) (by kernel_rfl) (fun _ _ _ h => h) (Or.inl ⟨by rfl, ?hy34⟩) (by assumption) ?rest34
            case hy34 => (intro w hSw; (try dsimp only at hSw); go_simp; try with_reducible rfl)
            try simp only [Act.put, List.setIfInBounds_toArray, List.set_cons_zero, List.set_cons_succ]
            refine takeH (i := 6) (v := .bool false) rfl (by kernel_rfl) (by kernel_rfl) (by kernel_rfl) (fun _ _ _ h => h) (Or.inl ⟨by rfl, ?hy35⟩) (by assumption) ?rest35
            case hy35 => (intro w hSw; (try dsimp only at hSw); go_simp; try simp [*]; try omega)
            try simp only [Act.put, List.setIfInBounds_toArray, List.set_cons_zero, List.set_cons_succ]
            refine takeH (i := 7) (v := ?vv36) rfl (by kernel_rfl) (by kernel_rfl) (by kernel_rfl) (fun _ _ _ h => h) (Or.inl ⟨by rfl, ?hy36⟩) (by assumption) ?rest36
            case hy36 => (intro w hSw; (try dsimp only at hSw); go_simp; try with_reducible rfl)
            try simp only [Act.put, List.setIfInBounds_toArray, List.set_cons_zero, List.set_cons_succ]
            refine takeH (i := 8) (v := ?vv37) rfl (by kernel_rfl) (by kernel_rfl) (by kernel_rfl) (fun _ _ _ h => h) (Or.inl ⟨by rfl, ?hy37⟩) (by assumption) ?rest37
            case hy37 => (intro w hSw; (try dsimp only at hSw); go_simp; try with_reducible rfl)
            try simp only [Act.put, List.setIfInBounds_toArray, List.set_cons_zero, List.set_cons_succ]
            refine takeH (i := 9) (v := ?vv38) rfl (by kernel_rfl) (by kernel_rfl) (by kernel_rfl) (fun _ _ _ h => h) (Or.inl ⟨by rfl, ?hy38⟩) (by assumption) ?rest38
            case hy38 => (intro w hSw; (try dsimp only at hSw); go_simp; try with_reducible rfl)
            try simp only [Act.put, List.setIfInBounds_toArray, List.set_cons_zero, List.set_cons_succ]
            refine takeH (i := 10) (v := ?vv39) rfl (by kernel_rfl) (by kernel_rfl) (by kernel_rfl) (fun _ _ _ h => h) (Or.inl ⟨by rfl, ?hy39⟩) (by assumption) ?rest39
            case hy39 => (intro w hSw; (try dsimp only at hSw); go_simp; try with_reducible rfl)
            try simp only [Act.put, List.setIfInBounds_toArray, List.set_cons_zero, List.set_cons_succ]
            refine takeH (i := 11) (v := ?vv40) rfl (by kernel_rfl) (by kernel_rfl) (by kernel_rfl) (fun _ _ _ h => h) (Or.inl ⟨by rfl, ?hy40⟩) (by assumption) ?rest40
            case hy40 => (intro w hSw; (try dsimp only at hSw); go_simp; try with_reducible rfl)
            try simp only [Act.put, List.setIfInBounds_toArray, List.set_cons_zero, List.set_cons_succ]
            refine takeH (i := 12) (v := ?vv41) rfl (by kernel_rfl) (by kernel_rfl) (by kernel_rfl) (fun _ _ _ h => h) (Or.inl ⟨by rfl, ?hy41⟩) (by assumption) ?rest41
            case hy41 => (intro w hSw; (try dsimp only at hSw); go_simp; try with_reducible rfl)
            try simp only [Act.put, List.setIfInBounds_toArray, List.set_cons_zero, List.set_cons_succ]
            refine takeH (i := 13) (v := .bool false) rfl (by kernel_rfl) (by kernel_rfl) (by kernel_rfl) (fun _ _ _ h => h) (Or.inl ⟨by rfl, ?hy42⟩) (by assumption) ?rest42
            case hy42 => (intro w hSw; (try dsimp only at hSw); go_simp; try simp [*]; try omega)
            try simp only [Act.put, List.setIfInBounds_toArray, List.set_cons_zero, List.set_cons_succ]
            refine takeH (i := 14) (v := ?vv43) rfl (by kernel_rfl) (by kernel_rfl) (by kernel_rfl) (fun _ _ _ h => h) (Or.inl ⟨by rfl, ?hy43⟩) (by assumption) ?rest43
            case hy43 => (intro w hSw; (try dsimp only at hSw); go_simp; try with_reducible rfl)
            try simp only [Act.put, List.setIfInBounds_toArray, List.set_cons_zero, List.set_cons_succ]
            refine takeH (i := 15) (v := ?vv44) rfl (by kernel_rfl) (by kernel_rfl) (by kernel_rfl) (fun _ _ _ h => h) (Or.inl ⟨by rfl, ?hy44⟩) (by assumption) ?rest44
            case hy44 => (intro w hSw; (try dsimp only at hSw); go_simp; try with_reducible rfl)
            try simp only [Act.put, List.setIfInBounds_toArray, List.set_cons_zero, List.set_cons_succ]
            refine takeH (i := 16) (v := ?vv45) rfl (by kernel_rfl) (by kernel_rfl) (by kernel_rfl) (fun _ _ _ h => h) (Or.inl ⟨by rfl, ?hy45⟩) (by assumption) ?rest45
            case hy45 => (intro w hSw; (try dsimp only at hSw); go_simp; try with_reducible rfl)
            try simp only [Act.put, List.setIfInBounds_toArray, List.set_cons_zero, List.set_cons_succ]
            refine takeH (i := 17) (v := ?vv46) rfl (by kernel_rfl) (by kernel_rfl) (by kernel_rfl) (fun _ _ _ h => h) (Or.inl ⟨by rfl, ?hy46⟩) (by assumption) ?rest46
            case hy46 => (intro w hSw; (try dsimp only at hSw); go_simp; try with_reducible rfl)
            try simp only [Act.put, List.setIfInBounds_toArray, List.set_cons_zero, List.set_cons_succ]
            refine takeH (i := 18) (v := ?vv47) rfl (by kernel_rfl) (by kernel_rfl) (by kernel_rfl) (fun _ _ _ h => h) (Or.inl ⟨by rfl, ?hy47⟩) (by assumption) ?rest47
            case hy47 => (intro w hSw; (try dsimp only at hSw); go_simp; try with_reducible rfl)
            try simp only [Act.put, List.setIfInBounds_toArray, List.set_cons_zero, List.set_cons_succ]
            refine takeH (i := 19) (v := ?vv48) rfl (by kernel_rfl) (by kernel_rfl) (by kernel_rfl) (fun _ _ _ h => h) (Or.inl ⟨by rfl, ?hy48⟩) (by assumption) ?rest48
            case hy48 => (intro w hSw; (try dsimp only at hSw); go_simp; try with_reducible rfl)
            try simp only [Act.put, List.setIfInBounds_toArray, List.set_cons_zero, List.set_cons_succ]
            refine takeH (i := 20) (v := ?vv49) rfl (by kernel_rfl) (by kernel_rfl) (by kernel_rfl) (fun _ _ _ h => h) (Or.inl ⟨by rfl, ?hy49⟩) (by assumption) ?rest49
            case hy49 => (intro w hSw; (try dsimp only at hSw); go_simp; try with_reducible rfl)
            try simp only [Act.put, List.setIfInBounds_toArray, List.set_cons_zero, List.set_cons_succ]
            refine takeH (i := 21) (v := ?vv50) rfl (by kernel_rfl) (by kernel_rfl) (by kernel_rfl) (fun _ _ _ h => h) (Or.inl ⟨by rfl, ?hy50⟩) (by assumption) ?rest50
            case hy50 => (intro w hSw; (try dsimp only at hSw); go_simp; try with_reducible rfl)
            try simp only [Act.put, List.setIfInBounds_toArray, List.set_cons_zero, List.set_cons_succ]
            refine takeH (i := 22) (v := ?vv51) rfl (by kernel_rfl) (by kernel_rfl) (by kernel_rfl) (fun _ _ _ h => h) (Or.inl ⟨by rfl, ?hy51⟩) (by assumption) ?rest51
            case hy51 => (intro w hSw; (try dsimp only at hSw); go_simp; try with_reducible rfl)
            try simp only [Act.put, List.setIfInBounds_toArray, List.set_cons_zero, List.set_cons_succ]
            refine takeH (i := 23) (v := ?vv52) rfl (by kernel_rfl) (by kernel_rfl) (by kernel_rfl) (fun _ _ _ h => h) (Or.inl ⟨by rfl, ?hy52⟩) (by assumption) ?rest52
            case hy52 => (intro w hSw; (try dsimp only at hSw); go_simp; try with_reducible rfl)
            try simp only [Act.put, List.setIfInBounds_toArray, List.set_cons_zero, List.set_cons_succ]
            refine takeH (i := 24) (v := ?vv53) rfl (by kernel_rfl) (by kernel_rfl) (by kernel_rfl) (fun _ _ _ h => h) (Or.inl ⟨by rfl, ?hy53⟩) (by assumption) ?rest53
            case hy53 => (intro w hSw; (try dsimp only at hSw); go_simp; try with_reducible rfl)
            try simp only [Act.put, List.setIfInBounds_toArray, List.set_cons_zero, List.set_cons_succ]
            refine takeH (i := 25) (v := ?vv54) rfl (by kernel_rfl) (by kernel_rfl) (by kernel_rfl) (fun _ _ _ h => h) (Or.inl ⟨by rfl, ?hy54⟩) (by assumption) ?rest54
            case hy54 => (intro w hSw; (try dsimp only at hSw); go_simp; try with_reducible rfl)
            try simp only [Act.put, List.setIfInBounds_toArray, List.set_cons_zero, List.set_cons_succ]
            refine takeH (i := 26) (v := .bool true) rfl (by kernel_rfl) (by kernel_rfl) (by kernel_rfl) (fun _ _ _ h => h) (Or.inl ⟨by rfl, ?hy55⟩) (by assumption) ?rest55
            case hy55 => (intro w hSw; (try dsimp only at hSw); go_simp; try simp [*]; try omega)
            try simp only [Act.put, List.setIfInBounds_toArray, List.set_cons_zero, List.set_cons_succ]
            refine takeH (i := 27) (v := ?vv56) rfl (by kernel_rfl) (by kernel_rfl) (by kernel_rfl) (fun _ _ _ h => h) (Or.inl ⟨by rfl, ?hy56⟩) (by assumption) ?rest56
            case hy56 => (intro w hSw; (try dsimp only at hSw); go_simp; try with_reducible rfl)
            try simp only [Act.put, List.setIfInBounds_toArray, List.set_cons_zero, List.set_cons_succ]
            clear hHeld
            refine wpAnyH_done (by kernel_rfl) ?_ _
            go_wp2
            go_ret
            exact ⟨by rw [HB.out]; rfl, hB.drew⟩
          · have hah := fun W hA => rAhead_at b gp op cp ps hT s t (by omega) (by omega) W hA
            have HOK : Hid (okL ws ps a ⟨s, t, V⟩ = (ahead ps s t && (riseB ws.length 0 V && enB ws V))) := by
              show _ = _
              have q4 : inB ps t = true := by unfold inB; simp; omega
              unfold okL
              simp only
              rw [q4, e1]; simp
            clear e1
            have hRd := hR.below hT (Below.refl wr.heap.size wr).drew
            go_wp2_with fail
            refine wp_region_held_drew (S := fun w' => w'.cell? ⟨g, o + k * 3, none⟩ = some (I64 s) ∧ w'.cell? ⟨g, o + k * 3 + 1, none⟩ = some (I64 t) ∧ w'.cell? ⟨b, 1, none⟩ = some (.slice (some ⟨gp, op, none⟩) ps.length cp)) (by kernel_rfl) ⟨x0, x1, c1⟩ (fun hHeld => ?_)
            refine takeH (i := 0) (v := ?vv57) rfl (by kernel_rfl) (by kernel_rfl) (by kernel_rfl) (fun _ _ _ h => h) (Or.inl ⟨by rfl, ?hy57⟩) (by assumption) ?rest57
            case hy57 => (intro w hSw; (try dsimp only at hSw); go_simp; try with_reducible rfl)
            try simp only [Act.put, List.setIfInBounds_toArray, List.set_cons_zero, List.set_cons_succ]
            refine takeH (i := 1) (v := ?vv58) rfl (by kernel_rfl) (by kernel_rfl) (by kernel_rfl) (fun _ _ _ h => h) (Or.inl ⟨by rfl, ?hy58⟩) (by assumption) ?rest58
            case hy58 => (intro w hSw; (try dsimp only at hSw); go_simp; try with_reducible rfl)
            try simp only [Act.put, List.setIfInBounds_toArray, List.set_cons_zero, List.set_cons_succ]
            refine takeH (i := 2) (v := ?vv59) rfl (by kernel_rfl) (by kernel_rfl) (by kernel_rfl) (fun _ _ _ h => h) (Or.inl ⟨by rfl, ?hy59⟩) (by assumption) ?rest59
            case hy59 => (intro w hSw; (try dsimp only at hSw); go_simp; try with_reducible rfl)
            try simp only [Act.put, List.setIfInBounds_toArray, List.set_cons_zero, List.set_cons_succ]
            refine takeH (i := 3) (v := ?vv60) rfl (by kernel_rfl) (by kernel_rfl) (by kernel_rfl) (fun _ _ _ h => h) (Or.inl ⟨by rfl, ?hy60⟩) (by assumption) ?rest60
            case hy60 => (intro w hSw; (try dsimp only at hSw); go_simp; try with_reducible rfl)
            try simp only [Act.put, List.setIfInBounds_toArray, List.set_cons_zero, List.set_cons_succ]
            refine takeH (i := 4) (v := ?vv61) rfl (by kernel_rfl) (by kernel_rfl) (by kernel_rfl) (fun _ _ _ h => h) (Or.inl ⟨by rfl, ?hy61⟩) (by assumption) ?rest61
            case hy61 => (intro w hSw; (try dsimp only at hSw); go_simp; try with_reducible rfl)
            try simp only [Act.put, List.setIfInBounds_toArray, List.set_cons_zero, List.set_cons_succ]
            refine takeH (i := 5) (v := ?vv62) rfl (by kernel_rfl) (by kernel_rfl) (by kernel_rfl) (fun _ _ _ h => h) (Or.inl ⟨by rfl, ?hy62⟩) (by assumption) ?rest62
            case hy62 => (intro w hSw; (try dsimp only at hSw); go_simp; try with_reducible rfl)
            try simp only [Act.put, List.setIfInBounds_toArray, List.set_cons_zero, List.set_cons_succ]
            refine takeH (i := 6) (v := .bool false) rfl (by kernel_rfl) (by kernel_rfl) (by kernel_rfl) (fun _ _ _ h => h) (Or.inl ⟨by rfl, ?hy63⟩) (by assumption) ?rest63
            case hy63 => (intro w hSw; (try dsimp only at hSw); go_simp; try simp [*]; try omega)
            try simp only [Act.put, List.setIfInBounds_toArray, List.set_cons_zero, List.set_cons_succ]
            refine takeH (i := 7) (v := ?vv64) rfl (by kernel_rfl) (by kernel_rfl) (by kernel_rfl) (fun _ _ _ h => h) (Or.inl ⟨by rfl, ?hy64⟩) (by assumption) ?rest64
            case hy64 => (intro w hSw; (try dsimp only at hSw); go_simp; try with_reducible rfl)
            try simp only [Act.put, List.setIfInBounds_toArray, List.set_cons_zero, List.set_cons_succ]
            refine takeH (i := 8) (v := ?vv65) rfl (by kernel_rfl) (by kernel_rfl) (by kernel_rfl) (fun _ _ _ h => h) (Or.inl ⟨by rfl, ?hy65⟩) (by assumption) ?rest65
            case hy65 => (intro w hSw; (try dsimp only at hSw); go_simp; try with_reducible rfl)
            try simp only [Act.put, List.setIfInBounds_toArray, List.set_cons_zero, List.set_cons_succ]
            refine takeH (i := 9) (v := ?vv66) rfl (by kernel_rfl) (by kernel_rfl) (by kernel_rfl) (fun _ _ _ h => h) (Or.inl ⟨by rfl, ?hy66⟩) (by assumption) ?rest66
            case hy66 => (intro w hSw; (try dsimp only at hSw); go_simp; try with_reducible rfl)
            try simp only [Act.put, List.setIfInBounds_toArray, List.set_cons_zero, List.set_cons_succ]
            refine takeH (i := 10) (v := ?vv67) rfl (by kernel_rfl) (by kernel_rfl) (by kernel_rfl) (fun _ _ _ h => h) (Or.inl ⟨by rfl, ?hy67⟩) (by assumption) ?rest67
            case hy67 => (intro w hSw; (try dsimp only at hSw); go_simp; try with_reducible rfl)
            try simp only [Act.put, List.setIfInBounds_toArray, List.set_cons_zero, List.set_cons_succ]
            refine takeH (i := 11) (v := ?vv68) rfl (by kernel_rfl) (by kernel_rfl) (by kernel_rfl) (fun _ _ _ h => h) (Or.inl ⟨by rfl, ?hy68⟩) (by assumption) ?rest68
            case hy68 => (intro w hSw; (try dsimp only at hSw); go_simp; try with_reducible rfl)
            try simp only [Act.put, List.setIfInBounds_toArray, List.set_cons_zero, List.set_cons_succ]
            refine takeH (i := 12) (v := ?vv69) rfl (by kernel_rfl) (by kernel_rfl) (by kernel_rfl) (fun _ _ _ h => h) (Or.inl ⟨by rfl, ?hy69⟩) (by assumption) ?rest69
            case hy69 => (intro w hSw; (try dsimp only at hSw); go_simp; try with_reducible rfl)
            try simp only [Act.put, List.setIfInBounds_toArray, List.set_cons_zero, List.set_cons_succ]
            refine takeH (i := 13) (v := .bool false) rfl (by kernel_rfl) (by kernel_rfl) (by kernel_rfl) (fun _ _ _ h => h) (Or.inl ⟨by rfl, ?hy70⟩) (by assumption) ?rest70
            case hy70 => (intro w hSw; (try dsimp only at hSw); go_simp; try simp [*]; try omega)
            try simp only [Act.put, List.setIfInBounds_toArray, List.set_cons_zero, List.set_cons_succ]
            refine takeH (i := 14) (v := ?vv71) rfl (by kernel_rfl) (by kernel_rfl) (by kernel_rfl) (fun _ _ _ h => h) (Or.inl ⟨by rfl, ?hy71⟩) (by assumption) ?rest71
            case hy71 => (intro w hSw; (try dsimp only at hSw); go_simp; try with_reducible rfl)
            try simp only [Act.put, List.setIfInBounds_toArray, List.set_cons_zero, List.set_cons_succ]
            refine takeH (i := 15) (v := ?vv72) rfl (by kernel_rfl) (by kernel_rfl) (by kernel_rfl) (fun _ _ _ h => h) (Or.inl ⟨by rfl, ?hy72⟩) (by assumption) ?rest72
            case hy72 => (intro w hSw; (try dsimp only at hSw); go_simp; try with_reducible rfl)
            try simp only [Act.put, List.setIfInBounds_toArray, List.set_cons_zero, List.set_cons_succ]
            refine takeH (i := 16) (v := ?vv73) rfl (by kernel_rfl) (by kernel_rfl) (by kernel_rfl) (fun _ _ _ h => h) (Or.inl ⟨by rfl, ?hy73⟩) (by assumption) ?rest73
            case hy73 => (intro w hSw; (try dsimp only at hSw); go_simp; try with_reducible rfl)
            try simp only [Act.put, List.setIfInBounds_toArray, List.set_cons_zero, List.set_cons_succ]
            refine takeH (i := 17) (v := ?vv74) rfl (by kernel_rfl) (by kernel_rfl) (by kernel_rfl) (fun _ _ _ h => h) (Or.inl ⟨by rfl, ?hy74⟩) (by assumption) ?rest74
            case hy74 => (intro w hSw; (try dsimp only at hSw); go_simp; try with_reducible rfl)
            try simp only [Act.put, List.setIfInBounds_toArray, List.set_cons_zero, List.set_cons_succ]
            refine takeH (i := 18) (v := ?vv75) rfl (by kernel_rfl) (by kernel_rfl) (by kernel_rfl) (fun _ _ _ h => h) (Or.inl ⟨by rfl, ?hy75⟩) (by assumption) ?rest75
            case hy75 => (intro w hSw; (try dsimp only at hSw); go_simp; try with_reducible rfl)
            try simp only [Act.put, List.setIfInBounds_toArray, List.set_cons_zero, List.set_cons_succ]
            refine takeH (i := 19) (v := ?vv76) rfl (by kernel_rfl) (by kernel_rfl) (by kernel_rfl) (fun _ _ _ h => h) (Or.inl ⟨by rfl, ?hy76⟩) (by assumption) ?rest76
            case hy76 => (intro w hSw; (try dsimp only at hSw); go_simp; try with_reducible rfl)
            try simp only [Act.put, List.setIfInBounds_toArray, List.set_cons_zero, List.set_cons_succ]
            refine takeH (i := 20) (v := ?vv77) rfl (by kernel_rfl) (by kernel_rfl) (by kernel_rfl) (fun _ _ _ h => h) (Or.inl ⟨by rfl, ?hy77⟩) (by assumption) ?rest77
            case hy77 => (intro w hSw; (try dsimp only at hSw); go_simp; try with_reducible rfl)
            try simp only [Act.put, List.setIfInBounds_toArray, List.set_cons_zero, List.set_cons_succ]
            refine takeH (i := 21) (v := ?vv78) rfl (by kernel_rfl) (by kernel_rfl) (by kernel_rfl) (fun _ _ _ h => h) (Or.inl ⟨by rfl, ?hy78⟩) (by assumption) ?rest78
            case hy78 => (intro w hSw; (try dsimp only at hSw); go_simp; try with_reducible rfl)
            try simp only [Act.put, List.setIfInBounds_toArray, List.set_cons_zero, List.set_cons_succ]
            refine takeH (i := 22) (v := ?vv79) rfl (by kernel_rfl) (by kernel_rfl) (by kernel_rfl) (fun _ _ _ h => h) (Or.inl ⟨by rfl, ?hy79⟩) (by assumption) ?rest79
            case hy79 => (intro w hSw; (try dsimp only at hSw); go_simp; try with_reducible rfl)
            try simp only [Act.put, List.setIfInBounds_toArray, List.set_cons_zero, List.set_cons_succ]
            refine takeH (i := 23) (v := ?vv80) rfl (by kernel_rfl) (by kernel_rfl) (by kernel_rfl) (fun _ _ _ h => h) (Or.inl ⟨by rfl, ?hy80⟩) (by assumption) ?rest80
            case hy80 => (intro w hSw; (try dsimp only at hSw); go_simp; try with_reducible rfl)
            try simp only [Act.put, List.setIfInBounds_toArray, List.set_cons_zero, List.set_cons_succ]
            refine takeH (i := 24) (v := ?vv81) rfl (by kernel_rfl) (by kernel_rfl) (by kernel_rfl) (fun _ _ _ h => h) (Or.inl ⟨by rfl, ?hy81⟩) (by assumption) ?rest81
            case hy81 => (intro w hSw; (try dsimp only at hSw); go_simp; try with_reducible rfl)
            try simp only [Act.put, List.setIfInBounds_toArray, List.set_cons_zero, List.set_cons_succ]
            refine takeH (i := 25) (v := ?vv82) rfl (by kernel_rfl) (by kernel_rfl) (by kernel_rfl) (fun _ _ _ h => h) (Or.inl ⟨by rfl, ?hy82⟩) (by assumption) ?rest82
            case hy82 => (intro w hSw; (try dsimp only at hSw); go_simp; try with_reducible rfl)
            try simp only [Act.put, List.setIfInBounds_toArray, List.set_cons_zero, List.set_cons_succ]
            refine takeH (i := 26) (v := .bool false) rfl (by kernel_rfl) (by kernel_rfl) (by kernel_rfl) (fun _ _ _ h => h) (Or.inl ⟨by rfl, ?hy83⟩) (by assumption) ?rest83
            case hy83 => (intro w hSw; (try dsimp only at hSw); go_simp; try simp [*]; try omega)
            try simp only [Act.put, List.setIfInBounds_toArray, List.set_cons_zero, List.set_cons_succ]
            refine takeH (i := 27) (v := ?vv84) rfl (by kernel_rfl) (by kernel_rfl) (by kernel_rfl) (fun _ _ _ h => h) (Or.inl ⟨by rfl, ?hy84⟩) (by assumption) ?rest84
            case hy84 => (intro w hSw; (try dsimp only at hSw); go_simp; try with_reducible rfl)
            try simp only [Act.put, List.setIfInBounds_toArray, List.set_cons_zero, List.set_cons_succ]
            clear hHeld
            refine wpAnyH_done (by kernel_rfl) ?_ _
            obtain ⟨W1, hW1⟩ : ∃ W1, wr.drew = W1 := ⟨_, rfl⟩
            have hB1 : Below wr.heap.size wr W1 := by rw [← hW1]; exact (Below.refl _ wr).drew
            have y0 : W1.cell? ⟨g, o + k * 3, none⟩ = some (I64 s) := by rw [← hW1]; exact x0
            have y1 : W1.cell? ⟨g, o + k * 3 + 1, none⟩ = some (I64 t) := by rw [← hW1]; exact x1
            have hz1 : W1.heap.size = wr.heap.size := by rw [← hW1]; rfl
            rw [hW1] at hRd ⊢
            clear hW1
            go_wp2_with fail
            go_region_held3 (fun w' => w'.cell? ⟨g, o + k * 3, none⟩ = some (I64 s) ∧ w'.cell? ⟨g, o + k * 3 + 1, none⟩ = some (I64 t))
              (first | (refine ⟨by assumption, by assumption⟩) | (refine ⟨?_, ?_⟩ <;> simpa))
              ((go_at_call 106; refine (hah _ (hRd.tr.below (Below.refl W1.heap.size W1).drew hRd.tr.lt_b (hRd.tr.lt_g hT.1))).mono ?_; rintro e w7 ⟨rfl, rfl⟩))
            clear hah y0 y1
            have hB2 : Below wr.heap.size wr W1.drew := hB1.drew
            have hR2 := hR.below hT hB2
            have y2 : W1.drew.cell? ⟨g, o + k * 3 + 2, none⟩ = some (.slice pv V.length cv) := (hB2.cell (p := ⟨g, o + k * 3 + 2, none⟩) hgl).trans x2
            have hth := rThere_at b gw ow cw gp op cp ws ps V pv cv W1.drew hR2 hW (hiv.below' hB2) hvm
            go_wp2_with fail
            refine hth.mono ?_
            rintro e W3 ⟨rfl, hB3⟩
            clear hth y2
            have hB3' : Below wr.heap.size wr W3 := hB2.trans (hB3.mono hB2.size)
            have hBw3 : Below w.heap.size w W3 := hB.trans (hB3'.mono hB.size)
            cases ha : ahead ps s t
            · have HB : Hid (rightB ws ps (X.map (fun x => x.1)) = false) := HF.out (by rw [HOK.out, ha]; rfl)
              clear HF HTK HEK HOK ha
              go_wp2
              go_ret
              exact ⟨by rw [HB.out]; rfl, hBw3⟩
            · cases hri : riseB ws.length 0 V
              · have HB : Hid (rightB ws ps (X.map (fun x => x.1)) = false) := HF.out (by rw [HOK.out, ha, hri]; rfl)
                clear HF HTK HEK HOK ha hri
                go_wp2
                go_ret
                exact ⟨by rw [HB.out]; rfl, hBw3⟩
              · have hen := rEnough_at b gw ow cw gp op cp ws ps V pv cv W3 (hR.below hT hB3') hT hW (hiv.below' hB3') (riseB_iff.1 hri).1 (by have := rise_len hri; omega)
                have y3 : W3.cell? ⟨g, o + k * 3 + 2, none⟩ = some (.slice pv V.length cv) := (hB3'.cell (p := ⟨g, o + k * 3 + 2, none⟩) hgl).trans x2
                rw [ha, hri, Bool.true_and, Bool.true_and] at HOK
                clear ha hri
                go_wp2_with fail
                refine hen.mono ?_
                rintro e W4 ⟨rfl, hB4⟩
                clear hen y3
                have hB4' : Below wr.heap.size wr W4 := hB3'.trans (hB4.mono hB3'.size)
                have hBw4 : Below w.heap.size w W4 := hB.trans (hB4'.mono hB.size)
                cases hen : enB ws V
                · have HB : Hid (rightB ws ps (X.map (fun x => x.1)) = false) := HF.out (by rw [HOK.out, hen])
                  clear HF HTK HEK HOK hen
                  go_wp2
                  go_ret
                  exact ⟨by rw [HB.out]; rfl, hBw4⟩
                · have HCN : Hid (chainB ws ps 0 ((X.map (fun x => x.1)).take (k + 1)) = true) := by show _ = _; rw [HTK.out, HOK.out, hen]
                  have y4 : W4.cell? ⟨g, o + k * 3 + 1, none⟩ = some (I64 t) := (hB4'.cell (p := ⟨g, o + k * 3 + 1, none⟩) hgl).trans x1
                  clear HF HTK HOK hen
                  go_wp2
                  go_roundw
                  case rel => exact ⟨k + 1, t, by omega, by go_num, rfl, hBw4, HCN, HEK⟩
                  case measure => simp [intOf]; omega
      · have HB : Hid (rightB ws ps (X.map (fun x => x.1)) = false) := HF.out (by unfold okL; simp [e1])
        have q1 : (s != a) = true := by simpa using e1
        clear HF HTK HEK e1
        go_wp2_with fail
        refine wp_region_held_drew (S := fun w' => w'.cell? ⟨g, o + k * 3, none⟩ = some (I64 s) ∧ w'.cell? ⟨g, o + k * 3 + 1, none⟩ = some (I64 t) ∧ w'.cell? ⟨b, 1, none⟩ = some (.slice (some ⟨gp, op, none⟩) ps.length cp)) (by kernel_rfl) ⟨x0, x1, c1⟩ (fun hHeld => ?_)
        refine takeH (i := 0) (v := ?vv85) rfl (by kernel_rfl) (by kernel_rfl) (by kernel_rfl) (fun _ _ _ h => h) (Or.inl ⟨by rfl, ?hy85⟩) (by assumption) ?rest85
        case hy85 => (intro w hSw; (try dsimp only at hSw); go_simp; try with_reducible rfl)
        try simp only [Act.put, List.setIfInBounds_toArray, List.set_cons_zero, List.set_cons_succ]
        refine takeH (i := 1) (v := ?vv86) rfl (by kernel_rfl) (by kernel_rfl) (by kernel_rfl) (fun _ _ _ h => h) (Or.inl ⟨by rfl, ?hy86⟩) (by assumption) ?rest86
        case hy86 => (intro w hSw; (try dsimp only at hSw); go_simp; try with_reducible rfl)
        try simp only [Act.put, List.setIfInBounds_toArray, List.set_cons_zero, List.set_cons_succ]
        refine takeH (i := 2) (v := ?vv87) rfl (by kernel_rfl) (by kernel_rfl) (by kernel_rfl) (fun _ _ _ h => h) (Or.inl ⟨by rfl, ?hy87⟩) (by assumption) ?rest87
        case hy87 => (intro w hSw; (try dsimp only at hSw); go_simp; try with_reducible rfl)
        try simp only [Act.put, List.setIfInBounds_toArray, List.set_cons_zero, List.set_cons_succ]
        refine takeH (i := 3) (v := ?vv88) rfl (by kernel_rfl) (by kernel_rfl) (by kernel_rfl) (fun _ _ _ h => h) (Or.inl ⟨by rfl, ?hy88⟩) (by assumption) ?rest88
        case hy88 => (intro w hSw; (try dsimp only at hSw); go_simp; try with_reducible rfl)
        try simp only [Act.put, List.setIfInBounds_toArray, List.set_cons_zero, List.set_cons_succ]
        refine takeH (i := 4) (v := ?vv89) rfl (by kernel_rfl) (by kernel_rfl) (by kernel_rfl) (fun _ _ _ h => h) (Or.inl ⟨by rfl, ?hy89⟩) (by assumption) ?rest89
        case hy89 => (intro w hSw; (try dsimp only at hSw); go_simp; try with_reducible rfl)
        try simp only [Act.put, List.setIfInBounds_toArray, List.set_cons_zero, List.set_cons_succ]
        refine takeH (i := 5) (v := ?vv90) rfl (by kernel_rfl) (by kernel_rfl) (by kernel_rfl) (fun _ _ _ h => h) (Or.inl ⟨by rfl, ?hy90⟩) (by assumption) ?rest90
        case hy90 => (intro w hSw; (try dsimp only at hSw); go_simp; try with_reducible rfl)
        try simp only [Act.put, List.setIfInBounds_toArray, List.set_cons_zero, List.set_cons_succ]
        refine takeH (i := 6) (v := .bool true) rfl (by kernel_rfl) (by kernel_rfl) (by kernel_rfl) (fun _ _ _ h => h) (Or.inl ⟨by rfl, ?hy91⟩) (by assumption) ?rest91
        case hy91 => (intro w hSw; (try dsimp only at hSw); go_simp; try simp [*]; try omega)
        try simp only [Act.put, List.setIfInBounds_toArray, List.set_cons_zero, List.set_cons_succ]
        refine takeH (i := 7) (v := ?vv92) rfl (by kernel_rfl) (by kernel_rfl) (by kernel_rfl) (fun _ _ _ h => h) (Or.inl ⟨by rfl, ?hy92⟩) (by assumption) ?rest92
        case hy92 => (intro w hSw; (try dsimp only at hSw); go_simp; try with_reducible rfl)
        try simp only [Act.put, List.setIfInBounds_toArray, List.set_cons_zero, List.set_cons_succ]
        refine takeH (i := 8) (v := undef) rfl (by kernel_rfl) (by kernel_rfl) (by kernel_rfl) (fun _ _ _ h => h) (Or.inr ⟨by rfl, rfl⟩) (by assumption) ?rest93
        try simp only [Act.put, List.setIfInBounds_toArray, List.set_cons_zero, List.set_cons_succ]
        refine takeH (i := 9) (v := undef) rfl (by kernel_rfl) (by kernel_rfl) (by kernel_rfl) (fun _ _ _ h => h) (Or.inr ⟨by rfl, rfl⟩) (by assumption) ?rest94
        try simp only [Act.put, List.setIfInBounds_toArray, List.set_cons_zero, List.set_cons_succ]
        refine takeH (i := 10) (v := undef) rfl (by kernel_rfl) (by kernel_rfl) (by kernel_rfl) (fun _ _ _ h => h) (Or.inr ⟨by rfl, rfl⟩) (by assumption) ?rest95
        try simp only [Act.put, List.setIfInBounds_toArray, List.set_cons_zero, List.set_cons_succ]
        refine takeH (i := 11) (v := undef) rfl (by kernel_rfl) (by kernel_rfl) (by kernel_rfl) (fun _ _ _ h => h) (Or.inr ⟨by rfl, rfl⟩) (by assumption) ?rest96
        try simp only [Act.put, List.setIfInBounds_toArray, List.set_cons_zero, List.set_cons_succ]
        refine takeH (i := 12) (v := undef) rfl (by kernel_rfl) (by kernel_rfl) (by kernel_rfl) (fun _ _ _ h => h) (Or.inr ⟨by rfl, rfl⟩) (by assumption) ?rest97
        try simp only [Act.put, List.setIfInBounds_toArray, List.set_cons_zero, List.set_cons_succ]
        refine takeH (i := 13) (v := undef) rfl (by kernel_rfl) (by kernel_rfl) (by kernel_rfl) (fun _ _ _ h => h) (Or.inr ⟨by rfl, rfl⟩) (by assumption) ?rest98
        try simp only [Act.put, List.setIfInBounds_toArray, List.set_cons_zero, List.set_cons_succ]
        refine takeH (i := 14) (v := ?vv99) rfl (by kernel_rfl) (by kernel_rfl) (by kernel_rfl) (fun _ _ _ h => h) (Or.inl ⟨by rfl, ?hy99⟩) (by assumption) ?rest99
        case hy99 => (intro w hSw; (try dsimp only at hSw); go_simp; try with_reducible rfl)
        try simp only [Act.put, List.setIfInBounds_toArray, List.set_cons_zero, List.set_cons_succ]
        refine takeH (i := 15) (v := ?vv100) rfl (by kernel_rfl) (by kernel_rfl) (by kernel_rfl) (fun _ _ _ h => h) (Or.inl ⟨by rfl, ?hy100⟩) (by assumption) ?rest100
        case hy100 => (intro w hSw; (try dsimp only at hSw); go_simp; try with_reducible rfl)
        try simp only [Act.put, List.setIfInBounds_toArray, List.set_cons_zero, List.set_cons_succ]
        refine takeH (i := 16) (v := undef) rfl (by kernel_rfl) (by kernel_rfl) (by kernel_rfl) (fun _ _ _ h => h) (Or.inr ⟨by rfl, rfl⟩) (by assumption) ?rest101
        try simp only [Act.put, List.setIfInBounds_toArray, List.set_cons_zero, List.set_cons_succ]
        refine takeH (i := 17) (v := undef) rfl (by kernel_rfl) (by kernel_rfl) (by kernel_rfl) (fun _ _ _ h => h) (Or.inr ⟨by rfl, rfl⟩) (by assumption) ?rest102
        try simp only [Act.put, List.setIfInBounds_toArray, List.set_cons_zero, List.set_cons_succ]
        refine takeH (i := 18) (v := undef) rfl (by kernel_rfl) (by kernel_rfl) (by kernel_rfl) (fun _ _ _ h => h) (Or.inr ⟨by rfl, rfl⟩) (by assumption) ?rest103
        try simp only [Act.put, List.setIfInBounds_toArray, List.set_cons_zero, List.set_cons_succ]
        refine takeH (i := 19) (v := undef) rfl (by kernel_rfl) (by kernel_rfl) (by kernel_rfl) (fun _ _ _ h => h) (Or.inr ⟨by rfl, rfl⟩) (by assumption) ?rest104
        try simp only [Act.put, List.setIfInBounds_toArray, List.set_cons_zero, List.set_cons_succ]
        refine takeH (i := 20) (v := undef) rfl (by kernel_rfl) (by kernel_rfl) (by kernel_rfl) (fun _ _ _ h => h) (Or.inr ⟨by rfl, rfl⟩) (by assumption) ?rest105
        try simp only [Act.put, List.setIfInBounds_toArray, List.set_cons_zero, List.set_cons_succ]
        refine takeH (i := 21) (v := undef) rfl (by kernel_rfl) (by kernel_rfl) (by kernel_rfl) (fun _ _ _ h => h) (Or.inr ⟨by rfl, rfl⟩) (by assumption) ?rest106
        try simp only [Act.put, List.setIfInBounds_toArray, List.set_cons_zero, List.set_cons_succ]
        refine takeH (i := 22) (v := undef) rfl (by kernel_rfl) (by kernel_rfl) (by kernel_rfl) (fun _ _ _ h => h) (Or.inr ⟨by rfl, rfl⟩) (by assumption) ?rest107
        try simp only [Act.put, List.setIfInBounds_toArray, List.set_cons_zero, List.set_cons_succ]
        refine takeH (i := 23) (v := undef) rfl (by kernel_rfl) (by kernel_rfl) (by kernel_rfl) (fun _ _ _ h => h) (Or.inr ⟨by rfl, rfl⟩) (by assumption) ?rest108
        try simp only [Act.put, List.setIfInBounds_toArray, List.set_cons_zero, List.set_cons_succ]
        refine takeH (i := 24) (v := undef) rfl (by kernel_rfl) (by kernel_rfl) (by kernel_rfl) (fun _ _ _ h => h) (Or.inr ⟨by rfl, rfl⟩) (by assumption) ?rest109
        try simp only [Act.put, List.setIfInBounds_toArray, List.set_cons_zero, List.set_cons_succ]
        refine takeH (i := 25) (v := undef) rfl (by kernel_rfl) (by kernel_rfl) (by kernel_rfl) (fun _ _ _ h => h) (Or.inr ⟨by rfl, rfl⟩) (by assumption) ?rest110
        try simp only [Act.put, List.setIfInBounds_toArray, List.set_cons_zero, List.set_cons_succ]
        refine takeH (i := 26) (v := undef) rfl (by kernel_rfl) (by kernel_rfl) (by kernel_rfl) (fun _ _ _ h => h) (Or.inr ⟨by rfl, rfl⟩) (by assumption) ?rest111
        try simp only [Act.put, List.setIfInBounds_toArray, List.set_cons_zero, List.set_cons_succ]
        refine takeH (i := 27) (v := ?vv112) rfl (by kernel_rfl) (by kernel_rfl) (by kernel_rfl) (fun _ _ _ h => h) (Or.inl ⟨by rfl, ?hy112⟩) (by assumption) ?rest112
        case hy112 => (intro w hSw; (try dsimp only at hSw); go_simp; try with_reducible rfl)
        try simp only [Act.put, List.setIfInBounds_toArray, List.set_cons_zero, List.set_cons_succ]
        clear hHeld
        refine wpAnyH_done (by kernel_rfl) ?_ _
        go_wp2
        go_ret
        exact ⟨by rw [HB.out]; rfl, hB.drew⟩
    · have hkn : k = X.length := by omega
      have hch := HCH.out
      have hen := HEN.out
      rw [List.take_of_length_le (by rw [HN.out]; omega)] at hch hen
      obtain ⟨a0, a1⟩ := chain_end (by omega) (by simpa using hT.1) hch
      rw [hen] at a0 a1
      obtain ⟨x, hx⟩ : ∃ x, X[X.length - 1]? = some x := ⟨_, List.getElem?_eq_getElem (by omega)⟩
      have hls : lastS (X.map (fun x => x.1)) = x.1.s := by unfold lastS; rw [HN.out]; simp [hx]
      have HFN : Hid (rightB ws ps (X.map (fun x => x.1)) = (ps[a.toNat]?.getD 0 == x.1.s)) := by show _ = _; rw [HRT.out, hch, hen, hls, Bool.true_and]
      rcases hLr.at' with h9 | ⟨g, o, rfl, hcs⟩
      · rw [h9] at hn1; simp at hn1
      obtain ⟨x0, _, _⟩ := hcs (X.length - 1) x hx
      have c1 := hR.tr.pv
      have c2 := hR.tr.cs a.toNat a1
      obtain ⟨y, hy⟩ : ∃ y, ps[a.toNat]?.getD 0 = y := ⟨_, rfl⟩
      rw [hy] at c2 HFN
      have ha' : a < (ps.length : Int) := by omega
      have hks : (X.length : Int) - 1 = ((X.length - 1 : Nat) : Int) := by omega
      have hkw : IntKind.i64.wrap ((X.length - 1 : Nat) : Int) = ((X.length - 1 : Nat) : Int) := Go.IntWalk.i64_in _ (by omega)
      have hkm : X.length - 1 < X.length := by omega
      have hkm' : ((X.length - 1 : Nat) : Int) < (X.length : Int) := by omega
      clear hcs hx hch hen hls hy HCH HEN HRT hLr hL h hkn
      go_wp2_with fail
      refine wp_region_held_drew (S := fun w' => w'.cell? ⟨b, 1, none⟩ = some (.slice (some ⟨gp, op, none⟩) ps.length cp) ∧ w'.cell? ⟨gp, op + a.toNat, none⟩ = some (I64 y) ∧ w'.cell? ⟨g, o + (X.length - 1) * 3, none⟩ = some (I64 x.1.s)) (by kernel_rfl) ⟨c1, c2, x0⟩ (fun hHeld => ?_)
      refine takeH (i := 0) (v := ?vv113) rfl (by kernel_rfl) (by kernel_rfl) (by kernel_rfl) (fun _ _ _ h => h) (Or.inl ⟨by rfl, ?hy113⟩) (by assumption) ?rest113
      case hy113 => (intro w hSw; (try dsimp only at hSw); go_simp; try with_reducible rfl)
      try simp only [Act.put, List.setIfInBounds_toArray, List.set_cons_zero, List.set_cons_succ]
      refine takeH (i := 1) (v := ?vv114) rfl (by kernel_rfl) (by kernel_rfl) (by kernel_rfl) (fun _ _ _ h => h) (Or.inl ⟨by rfl, ?hy114⟩) (by assumption) ?rest114
      case hy114 => (intro w hSw; (try dsimp only at hSw); go_simp; try with_reducible rfl)
      try simp only [Act.put, List.setIfInBounds_toArray, List.set_cons_zero, List.set_cons_succ]
      refine takeH (i := 2) (v := ?vv115) rfl (by kernel_rfl) (by kernel_rfl) (by kernel_rfl) (fun _ _ _ h => h) (Or.inl ⟨by rfl, ?hy115⟩) (by assumption) ?rest115
      case hy115 => (intro w hSw; (try dsimp only at hSw); go_simp; try with_reducible rfl)
      try simp only [Act.put, List.setIfInBounds_toArray, List.set_cons_zero, List.set_cons_succ]
      refine takeH (i := 3) (v := ?vv116) rfl (by kernel_rfl) (by kernel_rfl) (by kernel_rfl) (fun _ _ _ h => h) (Or.inl ⟨by rfl, ?hy116⟩) (by assumption) ?rest116
      case hy116 => (intro w hSw; (try dsimp only at hSw); go_simp; try with_reducible rfl)
      try simp only [Act.put, List.setIfInBounds_toArray, List.set_cons_zero, List.set_cons_succ]
      refine takeH (i := 4) (v := ?vv117) rfl (by kernel_rfl) (by kernel_rfl) (by kernel_rfl) (fun _ _ _ h => h) (Or.inl ⟨by rfl, ?hy117⟩) (by assumption) ?rest117
      case hy117 => (intro w hSw; (try dsimp only at hSw); go_simp; try with_reducible rfl)
      try simp only [Act.put, List.setIfInBounds_toArray, List.set_cons_zero, List.set_cons_succ]
      refine takeH (i := 5) (v := ?vv118) rfl (by kernel_rfl) (by kernel_rfl) (by kernel_rfl) (fun _ _ _ h => h) (Or.inl ⟨by rfl, ?hy118⟩) (by assumption) ?rest118
      case hy118 => (intro w hSw; (try dsimp only at hSw); go_simp; try with_reducible rfl)
      try simp only [Act.put, List.setIfInBounds_toArray, List.set_cons_zero, List.set_cons_succ]
      refine takeH (i := 6) (v := ?vv119) rfl (by kernel_rfl) (by kernel_rfl) (by kernel_rfl) (fun _ _ _ h => h) (Or.inl ⟨by rfl, ?hy119⟩) (by assumption) ?rest119
      case hy119 => (intro w hSw; (try dsimp only at hSw); go_simp; try with_reducible rfl)
      try simp only [Act.put, List.setIfInBounds_toArray, List.set_cons_zero, List.set_cons_succ]
      refine takeH (i := 7) (v := ?vv120) rfl (by kernel_rfl) (by kernel_rfl) (by kernel_rfl) (fun _ _ _ h => h) (Or.inl ⟨by rfl, ?hy120⟩) (by assumption) ?rest120
      case hy120 => (intro w hSw; (try dsimp only at hSw); go_simp; try with_reducible rfl)
      try simp only [Act.put, List.setIfInBounds_toArray, List.set_cons_zero, List.set_cons_succ]
      refine takeH (i := 8) (v := ?vv121) rfl (by kernel_rfl) (by kernel_rfl) (by kernel_rfl) (fun _ _ _ h => h) (Or.inl ⟨by rfl, ?hy121⟩) (by assumption) ?rest121
      case hy121 => (intro w hSw; (try dsimp only at hSw); go_simp; try with_reducible rfl)
      try simp only [Act.put, List.setIfInBounds_toArray, List.set_cons_zero, List.set_cons_succ]
      refine takeH (i := 9) (v := .int .i64 ((X.length - 1 : Nat) : Int)) rfl (by kernel_rfl) (by kernel_rfl) (by kernel_rfl) (fun _ _ _ h => h) (Or.inl ⟨by rfl, ?hy122⟩) (by assumption) ?rest122
      case hy122 => (intro w hSw; (try dsimp only at hSw); go_simp; try simp [*]; try omega)
      try simp only [Act.put, List.setIfInBounds_toArray, List.set_cons_zero, List.set_cons_succ]
      refine takeH (i := 10) (v := .pointer (some ⟨g, o + (X.length - 1) * 3, none⟩)) rfl (by kernel_rfl) (by kernel_rfl) (by kernel_rfl) (fun _ _ _ h => h) (Or.inl ⟨by rfl, ?hy123⟩) (by assumption) ?rest123
      case hy123 => (intro w hSw; (try dsimp only at hSw); go_simp; try simp [*]; try omega)
      try simp only [Act.put, List.setIfInBounds_toArray, List.set_cons_zero, List.set_cons_succ]
      refine takeH (i := 11) (v := ?vv124) rfl (by kernel_rfl) (by kernel_rfl) (by kernel_rfl) (fun _ _ _ h => h) (Or.inl ⟨by rfl, ?hy124⟩) (by assumption) ?rest124
      case hy124 => (intro w hSw; (try dsimp only at hSw); go_simp; try with_reducible rfl)
      try simp only [Act.put, List.setIfInBounds_toArray, List.set_cons_zero, List.set_cons_succ]
      refine takeH (i := 12) (v := ?vv125) rfl (by kernel_rfl) (by kernel_rfl) (by kernel_rfl) (fun _ _ _ h => h) (Or.inl ⟨by rfl, ?hy125⟩) (by assumption) ?rest125
      case hy125 => (intro w hSw; (try dsimp only at hSw); go_simp; try with_reducible rfl)
      try simp only [Act.put, List.setIfInBounds_toArray, List.set_cons_zero, List.set_cons_succ]
      refine takeH (i := 13) (v := ?vv126) rfl (by kernel_rfl) (by kernel_rfl) (by kernel_rfl) (fun _ _ _ h => h) (Or.inl ⟨by rfl, ?hy126⟩) (by assumption) ?rest126
      case hy126 => (intro w hSw; (try dsimp only at hSw); go_simp; try with_reducible rfl)
      try simp only [Act.put, List.setIfInBounds_toArray, List.set_cons_zero, List.set_cons_succ]
      refine takeH (i := 14) (v := ?vv127) rfl (by kernel_rfl) (by kernel_rfl) (by kernel_rfl) (fun _ _ _ h => h) (Or.inl ⟨by rfl, ?hy127⟩) (by assumption) ?rest127
      case hy127 => (intro w hSw; (try dsimp only at hSw); go_simp; try with_reducible rfl)
      try simp only [Act.put, List.setIfInBounds_toArray, List.set_cons_zero, List.set_cons_succ]
      clear hHeld hks hkw
      refine wpAnyH_done (by kernel_rfl) ?_ _
      go_wp2
      go_ret
      exact ⟨by rw [HFN.out]; rfl, hB.drew⟩
end Go.Proofs.YtgebcnnenhgkcaaGreat
/- The proof that Proof gives is right; its links as they lie. -/
namespace Go.Proofs.YtgebcnnenhgkcaaGreat

theorem linkB_en {ws ps : List Int} {vs : List Vt} (hO : OkV ws.length ps vs) {s t : Int} (h : linkB ws vs s t = true) : enB ws (votersL ws.length vs s t) = true := by
  unfold linkB at h
  unfold enB
  rw [wSum_perm ws (votersL_perm hO.v s t)]
  exact h
theorem rise_voters {ws ps : List Int} {vs : List Vt} (hO : OkV ws.length ps vs) (s t : Int) : riseB ws.length 0 (votersL ws.length vs s t) = true := by
  rw [riseB_iff]
  exact ⟨fun v hv => mem_votersL hv, votersL_strict hO s t⟩
theorem okL_mk {ws ps : List Int} {vs : List Vt} (hO : OkV ws.length ps vs) {s t : Int} (h0 : 0 ≤ t) (h1 : t.toNat < ps.length) (ha : s ∈ up ps t) (hl : linkB ws vs s t = true) : okL ws ps s (mkL ws vs (s, t)) = true := by
  unfold okL mkL inB
  simp only [beq_self_eq_true, Bool.true_and, Bool.and_eq_true, decide_eq_true_eq]
  exact ⟨⟨⟨h0, by omega⟩, ahead_mem.2 ha⟩, rise_voters hO s t, linkB_en hO hl⟩
theorem run_chain {ws ps : List Int} {vs : List Vt} (hO : OkV ws.length ps vs) : ∀ {l : List (Int × Int)} {a b : Int}, IsRun (linkB ws vs) ps a l b → chainB ws ps a (l.map (mkL ws vs)) = true ∧ endL a (l.map (mkL ws vs)) = b := by
  intro l
  induction l with
  | nil => intro a b h; exact ⟨rfl, h⟩
  | cons x r ih =>
    obtain ⟨s, t⟩ := x
    rintro a b ⟨rfl, h1, h2, h3, h4, h5⟩
    obtain ⟨i1, i2⟩ := ih h5
    refine ⟨?_, i2⟩
    simp only [List.map_cons, chainB, Bool.and_eq_true]
    exact ⟨okL_mk hO (by omega) h2 h3 h4, i1⟩

structure ProofFine (ws ps : List Int) (vs : List Vt) (a : Int) (L : List Lk) : Prop where
  right : rightB ws ps L = true
  len : (L.length : Int) = stAt (stepsC ws ps vs) a + 1
  last : ∃ l, L[L.length - 1]? = some l ∧ l.s = a
  pos : 0 < L.length
  le : L.length ≤ 40
  all : ∀ l ∈ L, l.vs = votersL ws.length vs l.s l.t
theorem proof_fine {ws ps : List Int} {vs : List Vt} (hT : Tree ps) (hO : OkV ws.length ps vs) {a c : Int} (ha0 : 0 ≤ a) (ha1 : a.toNat < ps.length) (hj : isJust ws ps vs a = true) (hc : childF ws ps vs a = some c) : ProofFine ws ps vs a (proofL ws ps vs a c) := by
  have hD : IsSteps (linkB ws vs) ps (stAt (stepsC ws ps vs)) := stepsL_is (linkB ws vs) hT
  have hle := hD.le a ha0 ha1
  have h40 : stAt (stepsC ws ps vs) a < 40 := by
    unfold isJust at hj
    have : stAt (stepsC ws ps vs) a ≠ 40 := by simpa using hj
    omega
  have hlow := hD.low a ha0 ha1 h40
  obtain ⟨hrun, hlen⟩ := walkS_is hT hD ha0 ha1 h40
  obtain ⟨hch, hend⟩ := run_chain hO hrun
  have hcc : 0 < c ∧ c.toNat < ps.length ∧ ps[c.toNat]?.getD 0 = a ∧ linkB ws vs a c = true := by
    unfold childF childN at hc
    have e1 := List.find?_some hc
    have e2 := List.mem_of_find?_eq_some hc
    simp only [List.mem_map, List.mem_range] at e2
    obtain ⟨i, hi, rfl⟩ := e2
    unfold isChild at e1
    simp only [Bool.and_eq_true, bne_iff_ne, beq_iff_eq] at e1
    exact ⟨by have := e1.1.1; omega, by omega, e1.1.2, e1.2⟩
  obtain ⟨c0, c1, c2, c3⟩ := hcc
  have hup : a ∈ up ps c := by rw [up_step hT c0 c1, c2]; exact List.mem_cons_self ..
  have hlenL : (proofL ws ps vs a c).length = (walkS (linkB ws vs) (stAt (stepsC ws ps vs)) a (up ps a)).2.length + 1 := by unfold proofL; simp
  have hT2 := hT.2.1
  have hlast : (proofL ws ps vs a c)[(proofL ws ps vs a c).length - 1]? = some (mkL ws vs (a, c)) := by
    rw [hlenL]
    unfold proofL
    rw [List.getElem?_append_right (by simp)]
    simp
  have hchain : chainB ws ps 0 (proofL ws ps vs a c) = true := by
    unfold proofL
    rw [chainB_append, hch, hend, Bool.true_and]
    simp only [chainB, Bool.and_true]
    exact okL_mk hO (by omega) c1 hup c3
  refine ⟨?_, by rw [hlenL]; omega, ⟨_, hlast, rfl⟩, by rw [hlenL]; omega, by rw [hlenL]; omega, fun l hl => ?_⟩
  · unfold rightB
    have e1 : endL 0 (proofL ws ps vs a c) = c := endL_last hlast
    have e2 : lastS (proofL ws ps vs a c) = a := by unfold lastS; rw [hlast]; rfl
    rw [hchain, e1, e2, c2]
    have h1 : 1 ≤ (proofL ws ps vs a c).length := by rw [hlenL]; omega
    have h2 : (proofL ws ps vs a c).length ≤ 40 := by rw [hlenL]; omega
    simp [h1, h2]
  · unfold proofL at hl
    rcases List.mem_append.1 hl with h1 | h1
    · obtain ⟨q, _, rfl⟩ := List.mem_map.1 h1
      rfl
    · simp only [List.mem_singleton] at h1
      subst h1
      rfl
end Go.Proofs.YtgebcnnenhgkcaaGreat

namespace Go.Proofs.YtgebcnnenhgkcaaGreat
open Go.RowKit Go.Shelf
theorem row_intsG {w : World} {base : Nat} {v : Value} {l : List Int} (h : w.ownsRow base 3 1 v l.length (l.map I64)) : ∃ p c, v = .slice p l.length c ∧ IntsAt w p l := by
  by_cases h0 : 0 < l.length
  · obtain ⟨g, cap, rfl, _, _, hc, _⟩ := row_open (row_low h) h0
    exact ⟨_, _, rfl, .inr ⟨g, 0, rfl, fun j hj => by rw [Nat.zero_add]; exact hc j hj⟩⟩
  · have hl : l = [] := List.length_eq_zero_iff.1 (by omega)
    subst hl
    rcases h.2 with ⟨rfl, _⟩ | ⟨g, cap, cur, rfl, _⟩
    · exact ⟨none, 0, rfl, .inl rfl⟩
    · exact ⟨_, _, rfl, .inl rfl⟩
theorem LinksAt.lk {w : World} {base : Nat} {v : Value} {X : List LkV} (h : LinksAt w base v X) : ∃ p c, v = .slice p X.length c ∧ LkAt w p X ∧ X.length ≤ maxLen := by
  have hvs : ∀ x ∈ X, ∃ p c, x.2 = .slice p x.1.vs.length c ∧ IntsAt w p x.1.vs ∧ x.1.vs.length ≤ maxLen := fun x hx => by
    have hr := h.each x hx
    obtain ⟨p, c, e, hi⟩ := row_intsG hr
    refine ⟨p, c, e, hi, ?_⟩
    rcases hr.2 with ⟨_, hn⟩ | ⟨_, cap, _, _, _, _, hle, hm, _⟩
    · omega
    · omega
  rcases h.row.2 with ⟨rfl, hn⟩ | ⟨g, cap, cur, rfl, hb, hg, hle, hm, hs, ht⟩
  · have h0 : X = [] := List.length_eq_zero_iff.1 hn
    exact ⟨none, 0, by rw [hn], ⟨.inl h0, hvs⟩, by omega⟩
  · refine ⟨_, _, rfl, ⟨.inr ⟨g, 0, rfl, fun j x hj => ?_⟩, hvs⟩, by omega⟩
    have hjl := (List.getElem?_eq_some_iff.1 hj).1
    have c0 := lvRow_at hj (i := 0) (u := I64 x.1.s) rfl
    have c1 := lvRow_at hj (i := 1) (u := I64 x.1.t) rfl
    have c2 := lvRow_at hj (i := 2) (u := x.2) rfl
    refine ⟨?_, ?_, ?_⟩
    · rw [(row_low h.row).cellAt _ (by omega)]; simpa using c0
    · rw [(row_low h.row).cellAt _ (by omega)]; simpa using c1
    · rw [(row_low h.row).cellAt _ (by omega)]; simpa using c2

end Go.Proofs.YtgebcnnenhgkcaaGreat
