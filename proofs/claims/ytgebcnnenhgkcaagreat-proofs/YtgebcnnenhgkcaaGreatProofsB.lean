/- The statements' own look at Proof, of both Courts. -/
import Derived.Test.YtgebcnnenhgkcaaGreatProveA
import Derived.Test.YtgebcnnenhgkcaaGreatPureC
import Derived.Test.YtgebcnnenhgkcaaGreatVotesC
import Derived.Test.YtgebcnnenhgkcaaGreatRefK
namespace Go.Proofs.YtgebcnnenhgkcaaGreat

theorem linkB_en {ws ps : List Int} {vs : List Vt} (hO : OkV ws.length ps vs) {s t : Int} (h : linkB ws vs s t = true) : enB ws (votersL ws.length vs s t) = true := by
  unfold linkB at h
  unfold enB
  rw [wSum_perm ws (votersL_perm hO.v s t)]
  exact h
theorem rise_voters {ws ps : List Int} {vs : List Vt} (hO : OkV ws.length ps vs) (s t : Int) : riseB ws.length 0 (votersL ws.length vs s t) = true := by
  rw [riseB_iff]
  exact ⟨fun v hv => mem_votersL hv, votersL_strict hO s t⟩
theorem okL_mk {ws ps : List Int} {vs : List Vt} (hO : OkV ws.length ps vs) {s t : Int} (h0 : 0 ≤ t) (h1 : t.toNat < ps.length) (ha : s ∈ up ps t) (hl : linkB ws vs s t = true) : okL ws ps s (mkL ws vs (s, t)) = true := by
  unfold okL mkL inB
  simp only [beq_self_eq_true, Bool.true_and, Bool.and_eq_true, decide_eq_true_eq]
  exact ⟨⟨⟨h0, by omega⟩, ahead_mem.2 ha⟩, rise_voters hO s t, linkB_en hO hl⟩
theorem run_chain {ws ps : List Int} {vs : List Vt} (hO : OkV ws.length ps vs) : ∀ {l : List (Int × Int)} {a b : Int}, IsRun (linkB ws vs) ps a l b → chainB ws ps a (l.map (mkL ws vs)) = true ∧ endL a (l.map (mkL ws vs)) = b := by
  intro l
  induction l with
  | nil => intro a b h; exact ⟨rfl, h⟩
  | cons x r ih =>
    obtain ⟨s, t⟩ := x
    rintro a b ⟨rfl, h1, h2, h3, h4, h5⟩
    obtain ⟨i1, i2⟩ := ih h5
    refine ⟨?_, i2⟩
    simp only [List.map_cons, chainB, Bool.and_eq_true]
    exact ⟨okL_mk hO (by omega) h2 h3 h4, i1⟩

structure ProofFine (ws ps : List Int) (vs : List Vt) (a : Int) (L : List Lk) : Prop where
  right : rightB ws ps L = true
  len : (L.length : Int) = stAt (stepsC ws ps vs) a + 1
  last : ∃ l, L[L.length - 1]? = some l ∧ l.s = a
  pos : 0 < L.length
  le : L.length ≤ 40
  all : ∀ l ∈ L, l.vs = votersL ws.length vs l.s l.t
theorem proof_fine {ws ps : List Int} {vs : List Vt} (hT : Tree ps) (hO : OkV ws.length ps vs) {a c : Int} (ha0 : 0 ≤ a) (ha1 : a.toNat < ps.length) (hj : isJust ws ps vs a = true) (hc : childF ws ps vs a = some c) : ProofFine ws ps vs a (proofL ws ps vs a c) := by
  have hD : IsSteps (linkB ws vs) ps (stAt (stepsC ws ps vs)) := stepsL_is (linkB ws vs) hT
  have hle := hD.le a ha0 ha1
  have h40 : stAt (stepsC ws ps vs) a < 40 := by
    unfold isJust at hj
    have : stAt (stepsC ws ps vs) a ≠ 40 := by simpa using hj
    omega
  have hlow := hD.low a ha0 ha1 h40
  obtain ⟨hrun, hlen⟩ := walkS_is hT hD ha0 ha1 h40
  obtain ⟨hch, hend⟩ := run_chain hO hrun
  have hcc : 0 < c ∧ c.toNat < ps.length ∧ ps[c.toNat]?.getD 0 = a ∧ linkB ws vs a c = true := by
    unfold childF childN at hc
    have e1 := List.find?_some hc
    have e2 := List.mem_of_find?_eq_some hc
    simp only [List.mem_map, List.mem_range] at e2
    obtain ⟨i, hi, rfl⟩ := e2
    unfold isChild at e1
    simp only [Bool.and_eq_true, bne_iff_ne, beq_iff_eq] at e1
    exact ⟨by have := e1.1.1; omega, by omega, e1.1.2, e1.2⟩
  obtain ⟨c0, c1, c2, c3⟩ := hcc
  have hup : a ∈ up ps c := by rw [up_step hT c0 c1, c2]; exact List.mem_cons_self ..
  have hlenL : (proofL ws ps vs a c).length = (walkS (linkB ws vs) (stAt (stepsC ws ps vs)) a (up ps a)).2.length + 1 := by unfold proofL; simp
  have hT2 := hT.2.1
  have hlast : (proofL ws ps vs a c)[(proofL ws ps vs a c).length - 1]? = some (mkL ws vs (a, c)) := by
    rw [hlenL]
    unfold proofL
    rw [List.getElem?_append_right (by simp)]
    simp
  have hchain : chainB ws ps 0 (proofL ws ps vs a c) = true := by
    unfold proofL
    rw [chainB_append, hch, hend, Bool.true_and]
    simp only [chainB, Bool.and_true]
    exact okL_mk hO (by omega) c1 hup c3
  refine ⟨?_, by rw [hlenL]; omega, ⟨_, hlast, rfl⟩, by rw [hlenL]; omega, by rw [hlenL]; omega, fun l hl => ?_⟩
  · unfold rightB
    have e1 : endL 0 (proofL ws ps vs a c) = c := endL_last hlast
    have e2 : lastS (proofL ws ps vs a c) = a := by unfold lastS; rw [hlast]; rfl
    rw [hchain, e1, e2, c2]
    have h1 : 1 ≤ (proofL ws ps vs a c).length := by rw [hlenL]; omega
    have h2 : (proofL ws ps vs a c).length ≤ 40 := by rw [hlenL]; omega
    simp [h1, h2]
  · unfold proofL at hl
    rcases List.mem_append.1 hl with h1 | h1
    · obtain ⟨q, _, rfl⟩ := List.mem_map.1 h1
      rfl
    · simp only [List.mem_singleton] at h1
      subst h1
      rfl
end Go.Proofs.YtgebcnnenhgkcaaGreat

namespace Go.Proofs.YtgebcnnenhgkcaaGreat
open Go.RowKit Go.Shelf

theorem RefAt.rin {w : World} {b : Nat} {S : Nat → Prop} {ws ps : List Int} {vs : List Vt} {wv pv vv : Value} (h : RefAt w b S ws ps vs wv pv vv) (hw : 0 < ws.length) (hp : 0 < ps.length) : ∃ gw cw gp cp, wv = .slice (some ⟨gw, 0, none⟩) ws.length cw ∧ pv = .slice (some ⟨gp, 0, none⟩) ps.length cp ∧ RIn w b gw 0 cw gp 0 cp ws ps := by
  obtain ⟨gw, cw, rfl, _, _, hcw, _⟩ := row_open h.wrow hw
  obtain ⟨gp, cp, rfl, _, _, hcp, _⟩ := row_open h.prow hp
  exact ⟨gw, cw, gp, cp, rfl, rfl, h.c0, fun j hj => by rw [Nat.zero_add]; exact hcw j hj, h.c1, fun j hj => by rw [Nat.zero_add]; exact hcp j hj⟩
theorem LinksAt.lk {w : World} {base : Nat} {v : Value} {X : List LkV} (h : LinksAt w base v X) : ∃ p c, v = .slice p X.length c ∧ LkAt w p X ∧ X.length ≤ maxLen := by
  have hvs : ∀ x ∈ X, ∃ p c, x.2 = .slice p x.1.vs.length c ∧ IntsAt w p x.1.vs ∧ x.1.vs.length ≤ maxLen := fun x hx => by
    have hr := h.each x hx
    obtain ⟨p, c, e, hi⟩ := row_ints hr
    refine ⟨p, c, e, hi, ?_⟩
    rcases hr.2 with ⟨_, hn⟩ | ⟨_, cap, _, _, _, _, hle, hm, _⟩
    · omega
    · omega
  rcases h.row.2 with ⟨rfl, hn⟩ | ⟨g, cap, cur, rfl, hb, hg, hle, hm, hs, ht⟩
  · have h0 : X = [] := List.length_eq_zero_iff.1 hn
    exact ⟨none, 0, by rw [hn], ⟨.inl h0, hvs⟩, by omega⟩
  · refine ⟨_, _, rfl, ⟨.inr ⟨g, 0, rfl, fun j x hj => ?_⟩, hvs⟩, by omega⟩
    have hjl := (List.getElem?_eq_some_iff.1 hj).1
    have c0 := lvRow_at hj (i := 0) (u := I64 x.1.s) rfl
    have c1 := lvRow_at hj (i := 1) (u := I64 x.1.t) rfl
    have c2 := lvRow_at hj (i := 2) (u := x.2) rfl
    refine ⟨?_, ?_, ?_⟩
    · rw [(row_low h.row).cellAt _ (by omega)]; simpa using c0
    · rw [(row_low h.row).cellAt _ (by omega)]; simpa using c1
    · rw [(row_low h.row).cellAt _ (by omega)]; simpa using c2

set_option maxRecDepth 100000 in
set_option maxHeartbeats 8000000 in
theorem proofLaw_at (Pr : Nat → Prop) (x : Nat) (ws ps : List Int) (vs : List Vt) (a : Int) (w : World) (h : Both w Pr x ws ps vs) :
    Calls Tryz.prog 48 #[.pointer (some ⟨x, 0, none⟩), .int .i64 a] w fun e w' => (∃ v X, e = .returned (.tuple #[v, .bool true]) ∧ LinksAt w' w.heap.size v X ∧ X.length ≤ 40) ∧ Both w' Pr x ws ps vs ∧ Chg (fun k => ¬ Pr k) w w' := by
  obtain ⟨b, rb, S, R, hb⟩ := h
  obtain ⟨wv, pv, vv, hC⟩ := hb.court
  have hW := okWs_of hb.okw
  have hx0 := hb.x0
  have hT := hb.T
  have hT40 := hb.T.2.1
  go_enter Tryz.func48, Tryz.ntmps48
  go_wp2_with fail
  refine (proof_at b S ws ps vs wv pv vv a _ hC hb.T hW hb.len hb.okv).mono ?_
  rintro e w1 ⟨⟨v, X, er, rfl, hL, hPO⟩, hC1, hc1⟩
  have hb1 := hb.same hC1 hc1
  have hx1 := hb1.x1
  obtain ⟨rwv, rpv, rvv, hR1⟩ := hb1.doc
  obtain ⟨gw, cw, gp, cp, rfl, rfl, hRI⟩ := hR1.rin hW.pos hT.1
  have hp1 := hRI.tr.pv
  have hcw1 : Chg (fun k => ¬ Pr k) w w1 := hc1.mono (fun k _ hk => hb.lowS k hk)
  obtain ⟨pX, cX, rfl, hLk, hXm⟩ := hL.lk
  clear hx0 hC1 hc1
  rcases hPO with ⟨h1, rfl, h3⟩ | ⟨h1, h2, rfl, h3⟩ | ⟨h1, h2, c, h3, rfl, h4⟩
  · have hX0 : X = [] := by simpa using h3
    subst hX0
    have hr : a < 0 ∨ (¬ a < 0 ∧ a ≥ (ps.length : Int)) := by
      have : ¬ (0 ≤ a ∧ a < ps.length) := by intro hc; rw [hasB_true hc.1 hc.2] at h1; cases h1
      omega
    rcases hr with hr | ⟨hr, hr2⟩
    all_goals
      go_wp2_with (go_at_call 42; refine (num_at _ _).mono ?_; rintro e w2 ⟨rfl, rfl⟩)
      go_ret2
      exact ⟨⟨_, [], rfl, hL, by simp⟩, ⟨b, rb, S, R, hb1⟩, hcw1⟩
  · have hX0 : X = [] := by simpa using h3
    subst hX0
    have ha : 0 ≤ a ∧ a < ps.length := by simpa [hasB] using h1
    have a1 : ¬ a < 0 := by omega
    have a2 : ¬ a ≥ (ps.length : Int) := by omega
    have HJ : Hid (isJust ws ps vs a = false ∨ childF ws ps vs a = none) := h2
    clear h1 h2 h3
    go_wp2_with fail
    refine (refFar_at rb R ws ps vs _ _ _ _ hR1 hT hW hb.len hb.okv).mono ?_
    rintro e w2 ⟨⟨gF, A, rfl, hgF, hNA, hAs, hfar⟩, hB2⟩
    have hb2 := hb1.kept hB2
    have hx2 := hb2.x1
    obtain ⟨_, _, _, hR2⟩ := hb2.doc
    have hL2 := hL.below hB2 (Nat.le_refl _)
    go_wp2_with fail
    refine (refLast_at rb R ws ps vs _ _ _ a _ hR2 hT hW hb.len hb.okv).mono ?_
    rintro e w3 ⟨rfl, hB3⟩
    have hb3 := hb2.kept hB3
    have hL3 := hL2.below hB3 (Nat.le_refl _)
    have hcf := (hNA.below hB3 hNA.lt).cell (j := a.toNat) (by rw [hAs]; omega)
    rw [hfar a.toNat (by omega)] at hcf
    obtain ⟨hcf, _⟩ := hcf
    have ea : ((a.toNat : Nat) : Int) = a := by omega
    rw [ea] at hcf
    obtain ⟨f, hf⟩ : ∃ f, farOf (stAt (stepsC ws ps vs) a) = f := ⟨_, rfl⟩
    rw [hf] at hcf
    have HFJ : Hid (f < 0 ↔ isJust ws ps vs a = false) := by
      show _ ↔ _
      have hD : IsSteps (linkB ws vs) ps (stAt (stepsC ws ps vs)) := stepsL_is (linkB ws vs) hT
      have hle := hD.le a ha.1 (by omega)
      rw [← hf]
      unfold farOf isJust
      by_cases e : stAt (stepsC ws ps vs) a = 40
      · simp [e]
      · simp [e]; omega
    have hcw3 := (hcw1.trans (Chg.of_below _ hB2)).trans (Chg.of_below _ hB3)
    clear hf ea hfar hNA
    by_cases hf0 : f < 0
    · go_wp2_with (go_at_call 42; refine (num_at _ _).mono ?_; rintro e w2 ⟨rfl, rfl⟩)
      go_ret2
      exact ⟨⟨_, [], rfl, hL3, by simp⟩, ⟨b, rb, S, R, hb3⟩, hcw3⟩
    · have hcn : (childF ws ps vs a).isSome = false := by
        rcases HJ.out with h1 | h1
        · exact absurd (HFJ.out.2 h1) hf0
        · rw [h1]; rfl
      rw [hcn]
      clear hcn
      go_wp2_with (go_at_call 42; refine (num_at _ _).mono ?_; rintro e w2 ⟨rfl, rfl⟩)
      go_ret2
      exact ⟨⟨_, [], rfl, hL3, by simp⟩, ⟨b, rb, S, R, hb3⟩, hcw3⟩
  · have ha : 0 ≤ a ∧ a < ps.length := by simpa [hasB] using h1
    have a1 : ¬ a < 0 := by omega
    have a2 : ¬ a ≥ (ps.length : Int) := by omega
    have hPF := proof_fine hT hb.okv ha.1 (by omega) h2 h3
    rw [← h4] at hPF
    have HC : Hid (childF ws ps vs a = some c) := h3
    have hXl : (X.map (fun x => x.1)).length = X.length := by simp
    have hX40 : X.length ≤ 40 := by have := hPF.le; omega
    have hX0 : 0 < X.length := by have := hPF.pos; omega
    have HJ : Hid (isJust ws ps vs a = true) := h2
    clear h1 h2 h3 h4
    go_wp2_with fail
    refine (refFar_at rb R ws ps vs _ _ _ _ hR1 hT hW hb.len hb.okv).mono ?_
    rintro e w2 ⟨⟨gF, A, rfl, hgF, hNA, hAs, hfar⟩, hB2⟩
    have hb2 := hb1.kept hB2
    have hx2 := hb2.x1
    obtain ⟨_, _, _, hR2⟩ := hb2.doc
    go_wp2_with fail
    refine (refLast_at rb R ws ps vs _ _ _ a _ hR2 hT hW hb.len hb.okv).mono ?_
    rintro e w3 ⟨rfl, hB3⟩
    have hB13 : Below w1.heap.size w1 w3 := hB2.trans (hB3.mono hB2.size)
    have hb3 := hb2.kept hB3
    have hx3 := hb3.x1
    have hN3 := hNA.below hB3 hNA.lt
    obtain ⟨hcf, _⟩ := hN3.cell (j := a.toNat) (by rw [hAs]; omega)
    rw [hfar a.toNat (by omega)] at hcf
    have ea : ((a.toNat : Nat) : Int) = a := by omega
    rw [ea] at hcf
    have hD : IsSteps (linkB ws vs) ps (stAt (stepsC ws ps vs)) := stepsL_is (linkB ws vs) hT
    have hle := hD.le a ha.1 (by omega)
    have hne : stAt (stepsC ws ps vs) a ≠ 40 := by have := HJ.out; unfold isJust at this; simpa using this
    have hfo : farOf (stAt (stepsC ws ps vs) a) = (X.length : Int) - 1 := by
      have := hPF.len
      unfold farOf
      rw [if_neg hne]
      omega
    rw [hfo] at hcf
    have hcs : (childF ws ps vs a).isSome = true := by rw [HC.out]; rfl
    rw [hcs]
    have hf0 : ¬ (X.length : Int) - 1 < 0 := by omega
    have hLk3 := hLk.below hB13
    have hRI3 := hRI.below hT hB13
    have hN3l := hN3.lt
    clear ea hfar hcs hfo hne hle
    go_wp2_with fail
    refine (rRight_at rb gw 0 cw gp 0 cp ws ps X pX cX w3 hRI3 hT hW hLk3 hXm).mono ?_
    rintro e w4 ⟨rfl, hB4⟩
    rw [hPF.right]
    have hB14 : Below w1.heap.size w1 w4 := hB13.trans (hB4.mono hB13.size)
    have hcf4 : w4.cell? ⟨gF, a.toNat, none⟩ = some (I64 ((X.length : Int) - 1)) := (hB4.cell (p := ⟨gF, a.toNat, none⟩) hN3l).trans hcf
    have hLk4 := hLk.below hB14
    have hb4 := hb3.kept hB4
    obtain ⟨l, hl, hls⟩ := hPF.last
    rw [hXl] at hl
    obtain ⟨xl, hxl⟩ : ∃ xl, X[X.length - 1]? = some xl := ⟨_, List.getElem?_eq_getElem (by omega)⟩
    have exl : xl.1 = l := by simp [hxl] at hl; exact hl
    rcases hLk4.at' with h9 | ⟨g, o, rfl, hcells⟩
    · rw [h9] at hX0; simp at hX0
    obtain ⟨z0, _, _⟩ := hcells (X.length - 1) xl hxl
    rw [exl, hls] at z0
    have HALL : Hid (∀ l ∈ X.map (fun x => x.1), l.vs = votersL ws.length vs l.s l.t) := hPF.all
    have hks : (X.length : Int) - 1 = ((X.length - 1 : Nat) : Int) := by omega
    have hkm : X.length - 1 < X.length := by omega
    have hkm' : ((X.length - 1 : Nat) : Int) < (X.length : Int) := by omega
    have q1 : ((X.length : Int) != (X.length : Int)) = false := by simp
    have q2 : (a != a) = false := by simp
    have hcw4 := hcw1.trans (Chg.of_below (fun k => ¬ Pr k) hB14)
    have hL4 := hL.below hB14 (Nat.le_refl _)
    have HPF : Hid _ := hPF
    clear hl hls exl hxl hPF hcf hLk3 hRI3 hLk hN3 hNA hcells
    have hsub : (X.length : Int) - 1 + 1 = (X.length : Int) := by omega
    go_wp2_with (go_at_call 42; refine (num_at _ _).mono ?_; rintro e w2 ⟨rfl, rfl⟩)
    clear hks q1 q2 hsub hcf4 z0
    go_loopw [11] (fun ii wr => ∃ k : Nat, k ≤ X.length ∧ ii = .int .i64 k ∧ Below w2.heap.size w2 wr) (fun ii _ => X.length - (intOf ii).toNat)
    case atStart => exact ⟨0, by omega, rfl, Below.refl _ _⟩
    case round =>
      obtain ⟨k, hk, rfl, hB⟩ := hrel
      have hbr := hb4.kept hB
      have hcwr := hcw4.trans (Chg.of_below (fun k => ¬ Pr k) hB)
      have hLr := hL4.below hB (Nat.le_refl _)
      have hLkr := hLk4.below hB
      by_cases hlt : k < X.length
      · have hlt' : (k : Int) < (X.length : Int) := by omega
        rcases hLkr.at' with h9 | ⟨g', o', he, hcells⟩
        · rw [h9] at hX0; simp at hX0
        simp only [Option.some.injEq, Addr.mk.injEq, and_true] at he
        obtain ⟨rfl, rfl⟩ := he
        obtain ⟨xk, hxk⟩ : ∃ xk, X[k]? = some xk := ⟨_, List.getElem?_eq_getElem hlt⟩
        obtain ⟨y0, y1, y2⟩ := hcells k xk hxk
        obtain ⟨pv', cv, hxv, hiv, hvm⟩ := hLkr.vs xk (List.mem_of_getElem? hxk)
        have hvs := HALL.out xk.1 (List.mem_map.2 ⟨xk, List.mem_of_getElem? hxk, rfl⟩)
        rw [hxv] at y2
        have hxr := hbr.x1
        obtain ⟨_, _, _, hRr⟩ := hbr.doc
        obtain ⟨⟨s, t, V⟩, u⟩ := xk
        dsimp only at y0 y1 y2 hiv hvm hvs
        have hgl : g < wr.heap.size := World.block_lt_of_cell? wr _ y0
        have hxl' : x < wr.heap.size := World.block_lt_of_cell? wr _ hxr
        have HVS : Hid (V = votersL ws.length vs s t) := hvs
        have hvo := refVoters_at rb R ws ps vs _ _ _ s t wr.drew (hRr.kept (Chg.drew (Chg.refl (fun _ => False) wr)) (fun _ _ hf => hf)) hW hb.len hb.okv
        clear hxk hcells hxv hvs
        go_wp2_with fail
        go_region_held3 (fun w' => (w'.cell? ⟨g, o + k * 3, none⟩ = some (I64 s) ∧ w'.cell? ⟨g, o + k * 3 + 1, none⟩ = some (I64 t) ∧ w'.cell? ⟨g, o + k * 3 + 2, none⟩ = some (.slice pv' V.length cv)) ∧ w'.cell? ⟨x, 1, none⟩ = some (.pointer (some ⟨rb, 0, none⟩)))
          (first | (exact ⟨⟨by assumption, by assumption, by assumption⟩, by assumption⟩) | (refine ⟨⟨?_, ?_, ?_⟩, ?_⟩ <;> simpa))
          ((first
            | (go_at_call 82; refine hvo.mono ?_; rintro e W7 ⟨⟨v7, rfl, hr7⟩, hB7⟩; have hB7' : Below wr.heap.size wr W7 := (Below.refl wr.heap.size wr).drew.trans hB7; obtain ⟨p7, c7, rfl, hi7⟩ := row_ints hr7; have hiv7 := hiv.below' hB7'; have y0' := (hB7'.cell (p := ⟨g, o + k * 3, none⟩) hgl).trans y0; have y1' := (hB7'.cell (p := ⟨g, o + k * 3 + 1, none⟩) hgl).trans y1; have y2' := (hB7'.cell (p := ⟨g, o + k * 3 + 2, none⟩) hgl).trans y2; have hxr' := (hB7'.cell (p := ⟨x, 1, none⟩) hxl').trans hxr; clear hB7)
            | (go_at_call 72; refine (sameInts_at pv' p7 cv c7 V (votersL ws.length vs s t) W7 hiv7 hi7 hvm).mono ?_; rintro e w8 ⟨rfl, n8, rfl⟩)))
        have hde : decide (V = votersL ws.length vs s t) = true := by simpa using HVS.out
        rw [hde]
        clear hde
        have hBn : Below w2.heap.size w2 (W7.drewN n8) := below_drewN (hB.trans (hB7'.mono hB.size)) n8
        go_wp2
        go_roundw
        case rel => exact ⟨k + 1, by omega, by go_num, hBn⟩
        case measure => simp [intOf]; omega
      · go_wp2
        go_ret2
        exact ⟨⟨_, X, rfl, hLr, hX40⟩, ⟨b, rb, S, R, hbr⟩, hcwr⟩

set_option maxHeartbeats 2000000 in
/-- One step of the kinds up to Proof. -/
theorem stepP_at (Pr : Nat → Prop) (x : Nat) (ws : List Int) (kd k a b' c : Int) (wsv : Value) (w : World) (h : Alike2 w Pr x ws) (hk : kd ≤ 6) :
    Calls Tryz.prog 11 #[.pointer (some ⟨x, 0, none⟩), opVal kd k a b' c wsv] w fun e w' => e = .returned (.bool true) ∧ Alike2 w' Pr x ws ∧ Chg (fun k => ¬ Pr k) w w' := by
  by_cases h5 : kd ≤ 5
  · exact stepV_at Pr x ws kd k a b' c wsv w h h5
  obtain ⟨ps, vs, h⟩ := h
  have hB1 : Below w.heap.size w (w.alloc (.cells #[I64 kd, I64 k, I64 a, I64 b', I64 c, wsv] 34)) := (Below.refl _ _).alloc (Nat.le_refl _) _
  have h1 := h.kept hB1
  have hc1 := Chg.of_below (fun k => ¬ Pr k) hB1
  have e6 : kd = 6 := by omega
  subst e6
  go_enter Tryz.func11, Tryz.ntmps11
  go_wp2_with fail
  refine (proofLaw_at Pr x ws ps vs a _ h1).mono ?_
  rintro e w2 ⟨⟨v, X, rfl, _⟩, h2, hB2⟩
  go_wp2
  go_ret
  exact ⟨rfl, ⟨_, _, h2⟩, hc1.trans hB2⟩

set_option maxHeartbeats 4000000 in
theorem wholeP_at (Pr : Nat → Prop) (x : Nat) (ws : List Int) (w : World) (h : Alike2 w Pr x ws) :
    Calls Tryz.prog 31 #[.pointer (some ⟨x, 0, none⟩), .bool true] w fun e w' => e = .returned (.bool true) ∧ Chg (fun k => ¬ Pr k) w w' := by
  obtain ⟨ps, vs, h⟩ := h
  go_enter Tryz.func31, Tryz.ntmps31
  go_wp2_with fail
  refine (justLaw_at Pr x ws ps vs _ h).mono ?_
  rintro e w1 ⟨⟨v1, rfl, _⟩, h1, hB1⟩
  go_wp2_with fail
  refine (finalLaw_at Pr x ws ps vs _ h1).mono ?_
  rintro e w2 ⟨⟨v2, rfl, _⟩, h2, hB2⟩
  go_wp2_with fail
  refine (guiltyLaw_at Pr x ws ps vs _ h2).mono ?_
  rintro e w3 ⟨⟨v3, rfl, _⟩, h3, hB3⟩
  have hcw := (hB1.trans hB2).trans hB3
  have hT : Tree ps := by obtain ⟨b, rb, S, R, hb⟩ := h3; exact hb.T
  have hT2 := hT.2.1
  clear h h1 h2 hB1 hB2 hB3
  go_wp2_with fail
  go_loopw [11, 12] (fun okb ii wr => ∃ k : Nat, k ≤ ps.length ∧ ii = .int .i64 k ∧ okb = .bool true ∧ Both wr Pr x ws ps vs ∧ Chg (fun k => ¬ Pr k) w wr) (fun _ ii _ => ps.length - (intOf ii).toNat)
  case atStart => exact ⟨0, by omega, rfl, rfl, h3, hcw⟩
  case round =>
    clear h3 hcw
    obtain ⟨k, hk, rfl, rfl, hBo, hcw⟩ := hrel
    have hBo' := hBo
    obtain ⟨b, rb, S, R, hb⟩ := hBo'
    have hx1 := hb.x1
    obtain ⟨rwv, rpv, rvv, hR⟩ := hb.doc
    obtain ⟨g0, cap0, rfl, _, _, _, _⟩ := row_open hR.prow hT.1
    have hr1 := hR.c1
    by_cases hlt : k < ps.length
    · have hlt' : (k : Int) < (ps.length : Int) := by omega
      go_wp2_with fail
      refine (proofLaw_at Pr x ws ps vs k _ hBo).mono ?_
      rintro e w4 ⟨⟨v, X, rfl, _⟩, h4, hc4⟩
      have hcw4 := hcw.trans hc4
      go_wp2
      go_roundw
      case rel => exact ⟨k + 1, by omega, by go_num, rfl, h4, hcw4⟩
      case measure => simp [intOf]; omega
    · have hlt' : ¬ (k : Int) < (ps.length : Int) := by omega
      go_wp2
      go_ret
      exact ⟨rfl, hcw⟩
end Go.Proofs.YtgebcnnenhgkcaaGreat
