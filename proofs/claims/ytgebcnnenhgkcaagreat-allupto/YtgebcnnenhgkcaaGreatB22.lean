/- The statements' own look at Proof, of both Courts. -/
import Derived.Test.YtgebcnnenhgkcaaGreatB12
import Derived.Test.YtgebcnnenhgkcaaGreatB19
import Derived.Test.YtgebcnnenhgkcaaGreatB21
import Derived.Test.YtgebcnnenhgkcaaGreatB13
namespace Go.Proofs.YtgebcnnenhgkcaaGreat
open Go.RowKit Go.Shelf

theorem RefAt.rin {w : World} {b : Nat} {S : Nat → Prop} {ws ps : List Int} {vs : List Vt} {wv pv vv : Value} (h : RefAt w b S ws ps vs wv pv vv) (hw : 0 < ws.length) (hp : 0 < ps.length) : ∃ gw cw gp cp, wv = .slice (some ⟨gw, 0, none⟩) ws.length cw ∧ pv = .slice (some ⟨gp, 0, none⟩) ps.length cp ∧ RIn w b gw 0 cw gp 0 cp ws ps := by
  obtain ⟨gw, cw, rfl, _, _, hcw, _⟩ := row_open h.wrow hw
  obtain ⟨gp, cp, rfl, _, _, hcp, _⟩ := row_open h.prow hp
  exact ⟨gw, cw, gp, cp, rfl, rfl, h.c0, fun j hj => by rw [Nat.zero_add]; exact hcw j hj, h.c1, fun j hj => by rw [Nat.zero_add]; exact hcp j hj⟩
set_option maxRecDepth 100000 in
set_option maxHeartbeats 8000000 in
theorem proofLawB_at (Pr : Nat → Prop) (x b rb : Nat) (S R : Nat → Prop) (ws ps : List Int) (vs : List Vt) (a : Int) (w : World) (hb : BothAt w Pr x b rb S R ws ps vs) :
    Calls Tryz.prog 48 #[.pointer (some ⟨x, 0, none⟩), .int .i64 a] w fun e w' => (∃ v X, e = .returned (.tuple #[v, .bool true]) ∧ LinksAt w' w.heap.size v X ∧ X.length ≤ 40 ∧ ∀ z ∈ X, z.1.vs.length ≤ 12) ∧ BothAt w' Pr x b rb S R ws ps vs ∧ Chg (fun k => ¬ Pr k) w w' := by
  obtain ⟨wv, pv, vv, hC⟩ := hb.court
  have hW := okWs_of hb.okw
  have hx0 := hb.x0
  have hT := hb.T
  have hT40 := hb.T.2.1
  go_enter Tryz.func48, Tryz.ntmps48
  go_wp2_with fail
  refine (proof_at b S ws ps vs wv pv vv a _ hC hb.T hW hb.len hb.okv).mono ?_
  rintro e w1 ⟨⟨v, X, er, rfl, hL, hPO⟩, hC1, hc1⟩
  have hb1 := hb.same hC1 hc1
  have hx1 := hb1.x1
  obtain ⟨rwv, rpv, rvv, hR1⟩ := hb1.doc
  obtain ⟨gw, cw, gp, cp, rfl, rfl, hRI⟩ := hR1.rin hW.pos hT.1
  have hp1 := hRI.tr.pv
  have hcw1 : Chg (fun k => ¬ Pr k) w w1 := hc1.mono (fun k _ hk => hb.lowS k hk)
  obtain ⟨pX, cX, rfl, hLk, hXm⟩ := hL.lk
  clear hx0 hC1 hc1
  rcases hPO with ⟨h1, rfl, h3⟩ | ⟨h1, h2, rfl, h3⟩ | ⟨h1, h2, c, h3, rfl, h4⟩
  · have hX0 : X = [] := by simpa using h3
    subst hX0
    have hr : a < 0 ∨ (¬ a < 0 ∧ a ≥ (ps.length : Int)) := by
      have : ¬ (0 ≤ a ∧ a < ps.length) := by intro hc; rw [hasB_true hc.1 hc.2] at h1; cases h1
      omega
    rcases hr with hr | ⟨hr, hr2⟩
    all_goals
      go_wp2_with (go_at_call 42; refine (num_at _ _).mono ?_; rintro e w2 ⟨rfl, rfl⟩)
      go_ret2
      exact ⟨⟨_, [], rfl, hL, by simp, fun z hz => (by cases hz)⟩, hb1, hcw1⟩
  · have hX0 : X = [] := by simpa using h3
    subst hX0
    have ha : 0 ≤ a ∧ a < ps.length := by simpa [hasB] using h1
    have a1 : ¬ a < 0 := by omega
    have a2 : ¬ a ≥ (ps.length : Int) := by omega
    have HJ : Hid (isJust ws ps vs a = false ∨ childF ws ps vs a = none) := h2
    clear h1 h2 h3
    go_wp2_with fail
    refine (refFar_at rb R ws ps vs _ _ _ _ hR1 hT hW hb.len hb.okv).mono ?_
    rintro e w2 ⟨⟨gF, A, rfl, hgF, hNA, hAs, hfar⟩, hB2⟩
    have hb2 := hb1.kept hB2
    have hx2 := hb2.x1
    obtain ⟨_, _, _, hR2⟩ := hb2.doc
    have hL2 := hL.below hB2 (Nat.le_refl _)
    go_wp2_with fail
    refine (refLast_at rb R ws ps vs _ _ _ a _ hR2 hT hW hb.len hb.okv).mono ?_
    rintro e w3 ⟨rfl, hB3⟩
    have hb3 := hb2.kept hB3
    have hL3 := hL2.below hB3 (Nat.le_refl _)
    have hcf := (hNA.below hB3 hNA.lt).cell (j := a.toNat) (by rw [hAs]; omega)
    rw [hfar a.toNat (by omega)] at hcf
    obtain ⟨hcf, _⟩ := hcf
    have ea : ((a.toNat : Nat) : Int) = a := by omega
    rw [ea] at hcf
    obtain ⟨f, hf⟩ : ∃ f, farOf (stAt (stepsC ws ps vs) a) = f := ⟨_, rfl⟩
    rw [hf] at hcf
    have HFJ : Hid (f < 0 ↔ isJust ws ps vs a = false) := by
      show _ ↔ _
      have hD : IsSteps (linkB ws vs) ps (stAt (stepsC ws ps vs)) := stepsL_is (linkB ws vs) hT
      have hle := hD.le a ha.1 (by omega)
      rw [← hf]
      unfold farOf isJust
      by_cases e : stAt (stepsC ws ps vs) a = 40
      · simp [e]
      · simp [e]; omega
    have hcw3 := (hcw1.trans (Chg.of_below _ hB2)).trans (Chg.of_below _ hB3)
    clear hf ea hfar hNA
    by_cases hf0 : f < 0
    · go_wp2_with (go_at_call 42; refine (num_at _ _).mono ?_; rintro e w2 ⟨rfl, rfl⟩)
      go_ret2
      exact ⟨⟨_, [], rfl, hL3, by simp, fun z hz => (by cases hz)⟩, hb3, hcw3⟩
    · have hcn : (childF ws ps vs a).isSome = false := by
        rcases HJ.out with h1 | h1
        · exact absurd (HFJ.out.2 h1) hf0
        · rw [h1]; rfl
      rw [hcn]
      clear hcn
      go_wp2_with (go_at_call 42; refine (num_at _ _).mono ?_; rintro e w2 ⟨rfl, rfl⟩)
      go_ret2
      exact ⟨⟨_, [], rfl, hL3, by simp, fun z hz => (by cases hz)⟩, hb3, hcw3⟩
  · have ha : 0 ≤ a ∧ a < ps.length := by simpa [hasB] using h1
    have a1 : ¬ a < 0 := by omega
    have a2 : ¬ a ≥ (ps.length : Int) := by omega
    have hPF := proof_fine hT hb.okv ha.1 (by omega) h2 h3
    rw [← h4] at hPF
    have HC : Hid (childF ws ps vs a = some c) := h3
    have hXl : (X.map (fun x => x.1)).length = X.length := by simp
    have hX40 : X.length ≤ 40 := by have := hPF.le; omega
    have HX12 : Hid (∀ z ∈ X, z.1.vs.length ≤ 12) := fun z hz => by
      have h9 := hPF.all z.1 (List.mem_map.2 ⟨z, hz, rfl⟩)
      rw [h9, (votersL_perm hb.okv.v z.1.s z.1.t).length_eq]
      exact Nat.le_trans (onL_length hb.okv z.1.s z.1.t) hW.le
    have hX0 : 0 < X.length := by have := hPF.pos; omega
    have HJ : Hid (isJust ws ps vs a = true) := h2
    clear h1 h2 h3 h4
    go_wp2_with fail
    refine (refFar_at rb R ws ps vs _ _ _ _ hR1 hT hW hb.len hb.okv).mono ?_
    rintro e w2 ⟨⟨gF, A, rfl, hgF, hNA, hAs, hfar⟩, hB2⟩
    have hb2 := hb1.kept hB2
    have hx2 := hb2.x1
    obtain ⟨_, _, _, hR2⟩ := hb2.doc
    go_wp2_with fail
    refine (refLast_at rb R ws ps vs _ _ _ a _ hR2 hT hW hb.len hb.okv).mono ?_
    rintro e w3 ⟨rfl, hB3⟩
    have hB13 : Below w1.heap.size w1 w3 := hB2.trans (hB3.mono hB2.size)
    have hb3 := hb2.kept hB3
    have hx3 := hb3.x1
    have hN3 := hNA.below hB3 hNA.lt
    obtain ⟨hcf, _⟩ := hN3.cell (j := a.toNat) (by rw [hAs]; omega)
    rw [hfar a.toNat (by omega)] at hcf
    have ea : ((a.toNat : Nat) : Int) = a := by omega
    rw [ea] at hcf
    have hD : IsSteps (linkB ws vs) ps (stAt (stepsC ws ps vs)) := stepsL_is (linkB ws vs) hT
    have hle := hD.le a ha.1 (by omega)
    have hne : stAt (stepsC ws ps vs) a ≠ 40 := by have := HJ.out; unfold isJust at this; simpa using this
    have hfo : farOf (stAt (stepsC ws ps vs) a) = (X.length : Int) - 1 := by
      have := hPF.len
      unfold farOf
      rw [if_neg hne]
      omega
    rw [hfo] at hcf
    have hcs : (childF ws ps vs a).isSome = true := by rw [HC.out]; rfl
    rw [hcs]
    have hf0 : ¬ (X.length : Int) - 1 < 0 := by omega
    have hLk3 := hLk.below hB13
    have hRI3 := hRI.below hT hB13
    have hN3l := hN3.lt
    clear ea hfar hcs hfo hne hle
    go_wp2_with fail
    refine (rRight_at rb gw 0 cw gp 0 cp ws ps X pX cX w3 hRI3 hT hW hLk3 hXm).mono ?_
    rintro e w4 ⟨rfl, hB4⟩
    rw [hPF.right]
    have hB14 : Below w1.heap.size w1 w4 := hB13.trans (hB4.mono hB13.size)
    have hcf4 : w4.cell? ⟨gF, a.toNat, none⟩ = some (I64 ((X.length : Int) - 1)) := (hB4.cell (p := ⟨gF, a.toNat, none⟩) hN3l).trans hcf
    have hLk4 := hLk.below hB14
    have hb4 := hb3.kept hB4
    obtain ⟨l, hl, hls⟩ := hPF.last
    rw [hXl] at hl
    obtain ⟨xl, hxl⟩ : ∃ xl, X[X.length - 1]? = some xl := ⟨_, List.getElem?_eq_getElem (by omega)⟩
    have exl : xl.1 = l := by simp [hxl] at hl; exact hl
    rcases hLk4.at' with h9 | ⟨g, o, rfl, hcells⟩
    · rw [h9] at hX0; simp at hX0
    obtain ⟨z0, _, _⟩ := hcells (X.length - 1) xl hxl
    rw [exl, hls] at z0
    have HALL : Hid (∀ l ∈ X.map (fun x => x.1), l.vs = votersL ws.length vs l.s l.t) := hPF.all
    have hks : (X.length : Int) - 1 = ((X.length - 1 : Nat) : Int) := by omega
    have hkm : X.length - 1 < X.length := by omega
    have hkm' : ((X.length - 1 : Nat) : Int) < (X.length : Int) := by omega
    have q1 : ((X.length : Int) != (X.length : Int)) = false := by simp
    have q2 : (a != a) = false := by simp
    have hcw4 := hcw1.trans (Chg.of_below (fun k => ¬ Pr k) hB14)
    have hL4 := hL.below hB14 (Nat.le_refl _)
    have HPF : Hid _ := hPF
    clear hl hls exl hxl hPF hcf hLk3 hRI3 hLk hN3 hNA hcells
    have hsub : (X.length : Int) - 1 + 1 = (X.length : Int) := by omega
    go_wp2_with (go_at_call 42; refine (num_at _ _).mono ?_; rintro e w2 ⟨rfl, rfl⟩)
    clear hks q1 q2 hsub hcf4 z0
    go_loopw [11] (fun ii wr => ∃ k : Nat, k ≤ X.length ∧ ii = .int .i64 k ∧ Below w2.heap.size w2 wr) (fun ii _ => X.length - (intOf ii).toNat)
    case atStart => exact ⟨0, by omega, rfl, Below.refl _ _⟩
    case round =>
      obtain ⟨k, hk, rfl, hB⟩ := hrel
      have hbr := hb4.kept hB
      have hcwr := hcw4.trans (Chg.of_below (fun k => ¬ Pr k) hB)
      have hLr := hL4.below hB (Nat.le_refl _)
      have hLkr := hLk4.below hB
      by_cases hlt : k < X.length
      · have hlt' : (k : Int) < (X.length : Int) := by omega
        rcases hLkr.at' with h9 | ⟨g', o', he, hcells⟩
        · rw [h9] at hX0; simp at hX0
        simp only [Option.some.injEq, Addr.mk.injEq, and_true] at he
        obtain ⟨rfl, rfl⟩ := he
        obtain ⟨xk, hxk⟩ : ∃ xk, X[k]? = some xk := ⟨_, List.getElem?_eq_getElem hlt⟩
        obtain ⟨y0, y1, y2⟩ := hcells k xk hxk
        obtain ⟨pv', cv, hxv, hiv, hvm⟩ := hLkr.vs xk (List.mem_of_getElem? hxk)
        have hvs := HALL.out xk.1 (List.mem_map.2 ⟨xk, List.mem_of_getElem? hxk, rfl⟩)
        rw [hxv] at y2
        have hxr := hbr.x1
        obtain ⟨_, _, _, hRr⟩ := hbr.doc
        obtain ⟨⟨s, t, V⟩, u⟩ := xk
        dsimp only at y0 y1 y2 hiv hvm hvs
        have hgl : g < wr.heap.size := World.block_lt_of_cell? wr _ y0
        have hxl' : x < wr.heap.size := World.block_lt_of_cell? wr _ hxr
        have HVS : Hid (V = votersL ws.length vs s t) := hvs
        have hvo := refVoters_at rb R ws ps vs _ _ _ s t wr.drew (hRr.kept (Chg.drew (Chg.refl (fun _ => False) wr)) (fun _ _ hf => hf)) hW hb.len hb.okv
        clear hxk hcells hxv hvs
        go_wp2_with fail
        go_region_held3 (fun w' => (w'.cell? ⟨g, o + k * 3, none⟩ = some (I64 s) ∧ w'.cell? ⟨g, o + k * 3 + 1, none⟩ = some (I64 t) ∧ w'.cell? ⟨g, o + k * 3 + 2, none⟩ = some (.slice pv' V.length cv)) ∧ w'.cell? ⟨x, 1, none⟩ = some (.pointer (some ⟨rb, 0, none⟩)))
          (first | (exact ⟨⟨by assumption, by assumption, by assumption⟩, by assumption⟩) | (refine ⟨⟨?_, ?_, ?_⟩, ?_⟩ <;> simpa))
          ((first
            | (go_at_call 82; refine hvo.mono ?_; rintro e W7 ⟨⟨v7, rfl, hr7⟩, hB7⟩; have hB7' : Below wr.heap.size wr W7 := (Below.refl wr.heap.size wr).drew.trans hB7; obtain ⟨p7, c7, rfl, hi7⟩ := row_ints hr7; have hiv7 := hiv.below' hB7'; have y0' := (hB7'.cell (p := ⟨g, o + k * 3, none⟩) hgl).trans y0; have y1' := (hB7'.cell (p := ⟨g, o + k * 3 + 1, none⟩) hgl).trans y1; have y2' := (hB7'.cell (p := ⟨g, o + k * 3 + 2, none⟩) hgl).trans y2; have hxr' := (hB7'.cell (p := ⟨x, 1, none⟩) hxl').trans hxr; clear hB7)
            | (go_at_call 72; refine (sameInts_at pv' p7 cv c7 V (votersL ws.length vs s t) W7 hiv7 hi7 hvm).mono ?_; rintro e w8 ⟨rfl, n8, rfl⟩)))
        have hde : decide (V = votersL ws.length vs s t) = true := by simpa using HVS.out
        rw [hde]
        clear hde
        have hBn : Below w2.heap.size w2 (W7.drewN n8) := below_drewN (hB.trans (hB7'.mono hB.size)) n8
        go_wp2
        go_roundw
        case rel => exact ⟨k + 1, by omega, by go_num, hBn⟩
        case measure => simp [intOf]; omega
      · go_wp2
        go_ret2
        exact ⟨⟨_, X, rfl, hLr, hX40, HX12.out⟩, hbr, hcwr⟩
end Go.Proofs.YtgebcnnenhgkcaaGreat
/- The law's deep: links that are lent, each voters' list with three more behind it. -/
namespace Go.Proofs.YtgebcnnenhgkcaaGreat
open Go.RowKit Go.Shelf

structure Dp where
  l : Lk
  g : Nat
  c : Nat
def Dp.o (d : Dp) : LkV := (d.l, .slice (some ⟨d.g, 0, none⟩) d.l.vs.length d.c)
def Dp.a (d : Dp) : Value := .slice (some ⟨d.g, 0, none⟩) (d.l.vs.length + 3) d.c
def spareL : LkV := (⟨77, 0, []⟩, .slice none 0 0)
/-- Links that are lent: their row, the row of their voters' lists, each list in a block of its own. -/
structure DeepAt (w : World) (base : Nat) (vo va : Value) (D : List Dp) (T : List LkV) : Prop where
  out : w.ownsRow base 121 3 vo (D.length + T.length) (lvRow (D.map Dp.o ++ T))
  all : w.ownsRow base 22 1 va D.length (D.map Dp.a)
  each : ∀ d ∈ D, w.ownsRow base 3 1 d.a (d.l.vs.length + 3) ((d.l.vs ++ [77, 77, 77]).map I64)
  ne1 : ∀ k, vo.ownBlock = some k → va.ownBlock ≠ some k
  ne2 : ∀ d ∈ D, vo.ownBlock ≠ some d.g ∧ va.ownBlock ≠ some d.g
  ap : D.Pairwise (fun a b => a.g ≠ b.g)
theorem Dp.blk (d : Dp) : d.a.ownBlock = some d.g := rfl
theorem DeepAt.kept {w w' : World} {base : Nat} {vo va : Value} {D : List Dp} {T : List LkV} {S : Nat → Prop} (h : DeepAt w base vo va D T) (hc : Chg S w w') (ho : ∀ k, vo.ownBlock = some k → ¬ S k) (ha : ∀ k, va.ownBlock = some k → ¬ S k) (hd : ∀ d ∈ D, ¬ S d.g) : DeepAt w' base vo va D T :=
  ⟨hc.row h.out ho, hc.row h.all ha, fun d hm => hc.row (h.each d hm) (fun k hk => by rw [Dp.blk] at hk; injection hk with hk; rw [← hk]; exact hd d hm), h.ne1, h.ne2, h.ap⟩
theorem DeepAt.below {w w' : World} {base : Nat} {vo va : Value} {D : List Dp} {T : List LkV} (h : DeepAt w base vo va D T) (hB : Below w.heap.size w w') : DeepAt w' base vo va D T :=
  ⟨row_below h.out hB (Nat.le_refl _), row_below h.all hB (Nat.le_refl _), fun d hm => row_below (h.each d hm) hB (Nat.le_refl _), h.ne1, h.ne2, h.ap⟩
theorem row_raise {w : World} {base : Nat} {e : TypeId} {s g n c m : Nat} {xs : List Value} (h : w.ownsRow 0 e s (.slice (some ⟨g, 0, none⟩) n c) m xs) (hb : base ≤ g) : w.ownsRow base e s (.slice (some ⟨g, 0, none⟩) n c) m xs := by
  refine ⟨h.1, ?_⟩
  rcases h.2 with ⟨h', _⟩ | ⟨g', cap, cur, h', _, h3⟩
  · cases h'
  · have he := h'
    simp only [Value.slice.injEq, Option.some.injEq, Addr.mk.injEq] at he
    exact .inr ⟨g', cap, cur, h', by omega, h3⟩
/-- What the caller's links are. -/
structure LkFit (X : List LkV) : Prop where
  vs : ∀ x ∈ X, ∃ p c, x.2 = .slice p x.1.vs.length c ∧ (p = none → c = 0 ∧ x.1.vs = []) ∧ (x.1.vs.length + 3) * 8 ≤ 140737488355328
  len : (X.length + 3) * 40 ≤ 140737488355328
theorem info_ints : (Tryz.prog.info? 22).map (fun i => (i.zero, i.size, i.bytes)) = some (some (.slice none 0 0), 1, 24) := by kernel_rfl

theorem deep_b {a b j : Nat} (h1 : a ≤ b) (h2 : (b + 3) * 40 ≤ 140737488355328) (h3 : j < 3) : (a + j + 1) * 40 ≤ 140737488355328 ∧ a + j + 1 ≤ maxLen := by unfold maxLen; omega

set_option maxRecDepth 100000 in
set_option maxHeartbeats 8000000 in
theorem deep_at (p : Option Addr) (c : Nat) (X : List LkV) (w : World) (hL : LkAt w p X) (hF : LkFit X) :
    Calls Tryz.prog 115 #[.slice p X.length c] w fun e w' => ∃ vo va D, e = .returned (.tuple #[vo, va]) ∧ DeepAt w' w.heap.size vo va D [spareL, spareL, spareL] ∧ D.map Dp.l = X.map (fun x => x.1) ∧ Below w.heap.size w w' := by
  obtain ⟨i0, hi, hz0, hz1, hz2⟩ := info_parts info_ints
  obtain ⟨i1, hj, hy0, hy1, hy2⟩ := info_parts info_link
  have hlen := hF.len
  have HN : Hid ((X.map (fun x => x.1)).length = X.length) := by simp [Hid]
  go_enter Tryz.func115, Tryz.ntmps115
  go_wp2
  go_loopw [4, 5, 6] (fun vo va i wr => ∃ (k : Nat) (D : List Dp), k ≤ X.length ∧ i = .int .i64 k ∧ D.length = k ∧ Hid (D.map Dp.l = (X.map (fun x => x.1)).take k) ∧ Below w.heap.size w wr ∧ DeepAt wr w.heap.size vo va D []) (fun _ _ i _ => X.length - (intOf i).toNat)
  case atStart => exact ⟨0, [], by omega, rfl, rfl, rfl, Below.refl _ _, ⟨World.ownsRow_nil _ _ _ _, World.ownsRow_nil _ _ _ _, fun d h => (by cases h), fun k h => (by cases h), fun d h => (by cases h), List.Pairwise.nil⟩⟩
  case round =>
    obtain ⟨k, D, hk, rfl, hDl, HD, hB, hD⟩ := hrel
    subst hDl
    have hz := hB.size
    by_cases hlt : D.length < X.length
    · have hlt' : (D.length : Int) < (X.length : Int) := by omega
      have hLr := hL.below hB
      rcases hL.at' with e | ⟨g, o, rfl, hcs⟩
      · rw [e] at hlt; simp at hlt
      obtain ⟨x, hx⟩ : ∃ x, X[D.length]? = some x := ⟨_, List.getElem?_eq_getElem hlt⟩
      have hxm := List.mem_of_getElem? hx
      obtain ⟨v0, v1, v2⟩ := hcs D.length x hx
      have hgl : g < w.heap.size := World.block_lt_of_cell? w _ v0
      obtain ⟨pv, cv, hxv, hiv, hvm⟩ := hLr.vs x hxm
      obtain ⟨pv', cv', hxv', hfn, hfb⟩ := hF.vs x hxm
      rw [hxv] at hxv' v2
      simp only [Value.slice.injEq, true_and] at hxv'
      obtain ⟨rfl, rfl⟩ := hxv'
      have HDn : Hid (∀ g1 c1 : Nat, (D ++ [Dp.mk x.1 g1 c1]).map Dp.l = (X.map (fun x => x.1)).take (D.length + 1)) := fun g1 c1 => by
        rw [List.map_append, HD.out, List.take_add_one]
        simp [hx]
      obtain ⟨⟨s, t, V⟩, vx⟩ := x
      dsimp only at v0 v1 v2 hiv hvm hfn hfb HDn
      have x0 := (hB.cell (p := ⟨g, o + D.length * 3, none⟩) hgl).trans v0
      have x1 := (hB.cell (p := ⟨g, o + D.length * 3 + 1, none⟩) hgl).trans v1
      have x2 := (hB.cell (p := ⟨g, o + D.length * 3 + 2, none⟩) hgl).trans v2
      clear hcs hx hxm hLr hxv HD
      obtain ⟨po, co, hvo⟩ := row_slice hD.out
      obtain ⟨pa, ca, hva⟩ := row_slice hD.all
      subst hvo hva
      simp only [List.length_nil, Nat.add_zero] at hD ⊢
      have hlt1 := lent_any pv cv V wr hiv hfn hfb
      go_wp2_with fail
      refine hlt1.mono ?_
      rintro e w2 ⟨g1, cap1, rfl, hrow, hg1, hB2⟩
      clear hlt1
      have hrow' := row_raise (base := w.heap.size) hrow (by omega)
      have hBw2 : Below w.heap.size w w2 := hB.trans (hB2.mono hz)
      have hD2 := hD.below hB2
      have hz2' := hBw2.size
      have h63 : Hid (D.length + 1 ≤ maxLen) := by show _ ≤ _; unfold maxLen; omega
      clear x0 x1 x2
      go_wp2_with (at_builtin; refine wpList_append_lies _ (by rfl) _ _ _ (by rfl) w.heap.size 22 i0 (.slice none 0 0) 1 24 Tryz.underlying52 hi hz0 hz1 hz2 rfl (by omega) _ D.length (D.map Dp.a) (by rfl) (hD2.all.alloc _) ⟨w2.heap.size, 0, none⟩ 1 1 [.slice (some ⟨g1, 0, none⟩) (V.length + 3) cap1] (by rfl) (by rfl) (World.news_of_block (cs := #[.slice (some ⟨g1, 0, none⟩) (V.length + 3) cap1]) (heap_alloc_new _ _)) (by simp [Value.oneCell']) (by omega) h63.out (by omega) (by simp; omega) (w2.heap.size + 1) (by simp) ?_; intro gA cA w3 hown3 hgrow3 hat3 hlt3)
      have hc3 : Chg (fun k => (Value.slice pa D.length ca).ownBlock = some k) w2 w3 := (Chg.of_below _ ((Below.refl _ w2).alloc (Nat.le_refl _) _)).grown hgrow3 (fun k e => .inl e)
      have hval : ∀ k, (Value.slice pa D.length ca).ownBlock = some k → w.heap.size ≤ k ∧ k < wr.heap.size := fun k e => hD.all.lt k e
      have hvol : ∀ k, (Value.slice po D.length co).ownBlock = some k → w.heap.size ≤ k ∧ k < wr.heap.size := fun k e => hD.out.lt k e
      have hdl : ∀ d ∈ D, w.heap.size ≤ d.g ∧ d.g < wr.heap.size := fun d hm => (hD.each d hm).lt d.g rfl
      have hg1l : g1 < w2.heap.size := (hrow'.lt g1 rfl).2
      have hB23 : Below w.heap.size w2 w3 := hc3.below hz2' (fun k hk hs => by have := (hval k hs).1; omega)
      have hBw3 : Below w.heap.size w w3 := hBw2.trans hB23
      have hz23 := hB2.size
      have hz233 := hB23.size
      have hrow3 := hc3.row hrow' (fun k hk hs => by have hk' : g1 = k := (by simpa [Value.ownBlock] using hk); have := (hval k hs).2; omega)
      have hout3 := hc3.row hD2.out (fun k hk hs => hD2.ne1 k hk hs)
      have heach3 : ∀ d ∈ D, w3.ownsRow w.heap.size 3 1 d.a (d.l.vs.length + 3) ((d.l.vs ++ [77, 77, 77]).map I64) := fun d hm => hc3.row (hD2.each d hm) (fun k hk hs => by rw [Dp.blk] at hk; injection hk with hk; exact (hD2.ne2 d hm).2 (by rw [hs, hk]))
      have hgA1 : gA ≠ g1 := by
        rcases hat3 with e | e
        · have := (hval gA e).2; omega
        · omega
      have hgAd : ∀ d ∈ D, gA ≠ d.g := fun d hm => by
        rcases hat3 with e | e
        · intro h; exact (hD2.ne2 d hm).2 (by rw [e, h])
        · have := (hdl d hm).2; omega
      have hgAo : ∀ k, (Value.slice po D.length co).ownBlock = some k → k ≠ gA := fun k hk => by
        rcases hat3 with e | e
        · intro h; exact hD2.ne1 k hk (by rw [e, h])
        · have := (hvol k hk).2; omega
      have hgA0 : w.heap.size ≤ gA := (hown3.lt gA rfl).1
      have hcapV : V.length ≤ cap1 := by
        rcases hrow'.2 with ⟨h', _⟩ | ⟨g', cap, cur, h', _, _, hle, _⟩
        · cases h'
        · simp only [Value.slice.injEq, Option.some.injEq, Addr.mk.injEq] at h'
          obtain ⟨_, _, rfl⟩ := h'
          omega
      have HNE : Hid (((∀ d ∈ D, w.heap.size ≤ d.g ∧ d.g < wr.heap.size) ∧ (∀ d ∈ D, gA ≠ d.g)) ∧ (∀ d ∈ D, (Value.slice po D.length co).ownBlock ≠ some d.g) ∧ (∀ k, (Value.slice po D.length co).ownBlock = some k → w.heap.size ≤ k ∧ k < wr.heap.size) ∧ D.Pairwise (fun a b => a.g ≠ b.g)) := ⟨⟨hdl, hgAd⟩, fun d hm => (hD2.ne2 d hm).1, hvol, hD2.ap⟩
      have HE3 : Hid _ := heach3
      have HGA : Hid _ := hgAo
      clear hD hD2 hat3 hgrow3 hc3 hval hvol hdl heach3 hgAd hgAo hB2 hiv hrow hrow'
      have z0 := (hBw3.cell (p := ⟨g, o + D.length * 3, none⟩) hgl).trans v0
      have z1 := (hBw3.cell (p := ⟨g, o + D.length * 3 + 1, none⟩) hgl).trans v1
      have z2 := (hBw3.cell (p := ⟨g, o + D.length * 3 + 2, none⟩) hgl).trans v2
      have hz3 := hBw3.size
      refine wp_region_held_drew (S := fun w' => w'.cell? ⟨g, o + D.length * 3, none⟩ = some (I64 s) ∧ w'.cell? ⟨g, o + D.length * 3 + 1, none⟩ = some (I64 t) ∧ w'.cell? ⟨g, o + D.length * 3 + 2, none⟩ = some (.slice pv V.length cv)) (by kernel_rfl) ⟨z0, z1, z2⟩ (fun hHeld => ?_)
      refine takeH (i := 0) (v := ?vv1) rfl (by kernel_rfl) (by kernel_rfl) (by kernel_rfl) (fun _ _ _ h => h) (Or.inl ⟨by rfl, ?hy1⟩) (by assumption) ?rest1
      case hy1 => (intro w hSw; (try dsimp only at hSw); go_simp; try with_reducible rfl)
      try simp only [Act.put, List.setIfInBounds_toArray, List.set_cons_zero, List.set_cons_succ]
      refine takeH (i := 1) (v := ?vv2) rfl (by kernel_rfl) (by kernel_rfl) (by kernel_rfl) (fun _ _ _ h => h) (Or.inl ⟨by rfl, ?hy2⟩) (by assumption) ?rest2
      case hy2 => (intro w hSw; (try dsimp only at hSw); go_simp; try with_reducible rfl)
      try simp only [Act.put, List.setIfInBounds_toArray, List.set_cons_zero, List.set_cons_succ]
      refine takeH (i := 2) (v := ?vv3) rfl (by kernel_rfl) (by kernel_rfl) (by kernel_rfl) (fun _ _ _ h => h) (Or.inl ⟨by rfl, ?hy3⟩) (by assumption) ?rest3
      case hy3 => (intro w hSw; (try dsimp only at hSw); go_simp; try with_reducible rfl)
      try simp only [Act.put, List.setIfInBounds_toArray, List.set_cons_zero, List.set_cons_succ]
      refine takeH (i := 3) (v := ?vv4) rfl (by kernel_rfl) (by kernel_rfl) (by kernel_rfl) (fun _ _ _ h => h) (Or.inl ⟨by rfl, ?hy4⟩) (by assumption) ?rest4
      case hy4 => (intro w hSw; (try dsimp only at hSw); go_simp; try with_reducible rfl)
      try simp only [Act.put, List.setIfInBounds_toArray, List.set_cons_zero, List.set_cons_succ]
      refine takeH (i := 4) (v := ?vv5) rfl (by kernel_rfl) (by kernel_rfl) (by kernel_rfl) (fun _ _ _ h => h) (Or.inl ⟨by rfl, ?hy5⟩) (by assumption) ?rest5
      case hy5 => (intro w hSw; (try dsimp only at hSw); go_simp; try with_reducible rfl)
      try simp only [Act.put, List.setIfInBounds_toArray, List.set_cons_zero, List.set_cons_succ]
      refine takeH (i := 5) (v := ?vv6) rfl (by kernel_rfl) (by kernel_rfl) (by kernel_rfl) (fun _ _ _ h => h) (Or.inl ⟨by rfl, ?hy6⟩) (by assumption) ?rest6
      case hy6 => (intro w hSw; (try dsimp only at hSw); go_simp; try with_reducible rfl)
      try simp only [Act.put, List.setIfInBounds_toArray, List.set_cons_zero, List.set_cons_succ]
      refine takeH (i := 6) (v := ?vv7) rfl (by kernel_rfl) (by kernel_rfl) (by kernel_rfl) (fun _ _ _ h => h) (Or.inl ⟨by rfl, ?hy7⟩) (by assumption) ?rest7
      case hy7 => (intro w hSw; (try dsimp only at hSw); go_simp; try with_reducible rfl)
      try simp only [Act.put, List.setIfInBounds_toArray, List.set_cons_zero, List.set_cons_succ]
      refine takeH (i := 7) (v := ?vv8) rfl (by kernel_rfl) (by kernel_rfl) (by kernel_rfl) (fun _ _ _ h => h) (Or.inl ⟨by rfl, ?hy8⟩) (by assumption) ?rest8
      case hy8 => (intro w hSw; (try dsimp only at hSw); go_simp; try with_reducible rfl)
      try simp only [Act.put, List.setIfInBounds_toArray, List.set_cons_zero, List.set_cons_succ]
      refine takeH (i := 8) (v := ?vv9) rfl (by kernel_rfl) (by kernel_rfl) (by kernel_rfl) (fun _ _ _ h => h) (Or.inl ⟨by rfl, ?hy9⟩) (by assumption) ?rest9
      case hy9 => (intro w hSw; (try dsimp only at hSw); go_simp; try with_reducible rfl)
      try simp only [Act.put, List.setIfInBounds_toArray, List.set_cons_zero, List.set_cons_succ]
      refine takeH (i := 9) (v := ?vv10) rfl (by kernel_rfl) (by kernel_rfl) (by kernel_rfl) (fun _ _ _ h => h) (Or.inl ⟨by rfl, ?hy10⟩) (by assumption) ?rest10
      case hy10 => (intro w hSw; (try dsimp only at hSw); go_simp; try with_reducible rfl)
      try simp only [Act.put, List.setIfInBounds_toArray, List.set_cons_zero, List.set_cons_succ]
      refine takeH (i := 10) (v := ?vv11) rfl (by kernel_rfl) (by kernel_rfl) (by kernel_rfl) (fun _ _ _ h => h) (Or.inl ⟨by rfl, ?hy11⟩) (by assumption) ?rest11
      case hy11 => (intro w hSw; (try dsimp only at hSw); go_simp; try with_reducible rfl)
      try simp only [Act.put, List.setIfInBounds_toArray, List.set_cons_zero, List.set_cons_succ]
      refine takeH (i := 11) (v := ?vv12) rfl (by kernel_rfl) (by kernel_rfl) (by kernel_rfl) (fun _ _ _ h => h) (Or.inl ⟨by rfl, ?hy12⟩) (by assumption) ?rest12
      case hy12 => (intro w hSw; (try dsimp only at hSw); go_simp; try with_reducible rfl)
      try simp only [Act.put, List.setIfInBounds_toArray, List.set_cons_zero, List.set_cons_succ]
      refine takeH (i := 12) (v := ?vv13) rfl (by kernel_rfl) (by kernel_rfl) (by kernel_rfl) (fun _ _ _ h => h) (Or.inl ⟨by rfl, ?hy13⟩) (by assumption) ?rest13
      case hy13 => (intro w hSw; (try dsimp only at hSw); go_simp; try with_reducible rfl)
      try simp only [Act.put, List.setIfInBounds_toArray, List.set_cons_zero, List.set_cons_succ]
      refine takeH (i := 13) (v := ?vv14) rfl (by kernel_rfl) (by kernel_rfl) (by kernel_rfl) (fun _ _ _ h => h) (Or.inl ⟨by rfl, ?hy14⟩) (by assumption) ?rest14
      case hy14 => (intro w hSw; (try dsimp only at hSw); go_simp; try with_reducible rfl)
      try simp only [Act.put, List.setIfInBounds_toArray, List.set_cons_zero, List.set_cons_succ]
      refine takeH (i := 14) (v := ?vv15) rfl (by kernel_rfl) (by kernel_rfl) (by kernel_rfl) (fun _ _ _ h => h) (Or.inl ⟨by rfl, ?hy15⟩) (by assumption) ?rest15
      case hy15 => (intro w hSw; (try dsimp only at hSw); go_simp; try with_reducible rfl)
      try simp only [Act.put, List.setIfInBounds_toArray, List.set_cons_zero, List.set_cons_succ]
      refine takeH (i := 15) (v := ?vv16) rfl (by kernel_rfl) (by kernel_rfl) (by kernel_rfl) (fun _ _ _ h => h) (Or.inl ⟨by rfl, ?hy16⟩) (by assumption) ?rest16
      case hy16 => (intro w hSw; (try dsimp only at hSw); go_simp; try with_reducible rfl)
      try simp only [Act.put, List.setIfInBounds_toArray, List.set_cons_zero, List.set_cons_succ]
      refine takeH (i := 16) (v := ?vv17) rfl (by kernel_rfl) (by kernel_rfl) (by kernel_rfl) (fun _ _ _ h => h) (Or.inl ⟨by rfl, ?hy17⟩) (by assumption) ?rest17
      case hy17 => (intro w hSw; (try dsimp only at hSw); go_simp; try with_reducible rfl)
      try simp only [Act.put, List.setIfInBounds_toArray, List.set_cons_zero, List.set_cons_succ]
      refine takeH (i := 17) (v := ?vv18) rfl (by kernel_rfl) (by kernel_rfl) (by kernel_rfl) (fun _ _ _ h => h) (Or.inl ⟨by rfl, ?hy18⟩) (by assumption) ?rest18
      case hy18 => (intro w hSw; (try dsimp only at hSw); go_simp; try with_reducible rfl)
      try simp only [Act.put, List.setIfInBounds_toArray, List.set_cons_zero, List.set_cons_succ]
      refine takeH (i := 18) (v := .slice (some ⟨g1, 0, none⟩) V.length cap1) rfl (by kernel_rfl) (by kernel_rfl) (by kernel_rfl) (fun _ _ _ h => h) (Or.inl ⟨by rfl, ?hy19⟩) (by assumption) ?rest19
      case hy19 => (intro w hSw; (try dsimp only at hSw); go_simp; try simp [*]; try omega)
      try simp only [Act.put, List.setIfInBounds_toArray, List.set_cons_zero, List.set_cons_succ]
      refine takeH (i := 19) (v := ?vv20) rfl (by kernel_rfl) (by kernel_rfl) (by kernel_rfl) (fun _ _ _ h => h) (Or.inl ⟨by rfl, ?hy20⟩) (by assumption) ?rest20
      case hy20 => (intro w hSw; (try dsimp only at hSw); go_simp; try with_reducible rfl)
      try simp only [Act.put, List.setIfInBounds_toArray, List.set_cons_zero, List.set_cons_succ]
      refine doneH (i := 20) rfl (by kernel_rfl) (by rfl) (fun K hK => ?_)
      have HK : Hid _ := hK
      clear hK
      go_simp
      obtain ⟨w4, hw4⟩ : ∃ w4, (w3.alloc (.cells #[I64 s, I64 t, .slice (some ⟨g1, 0, none⟩) V.length cap1] 121)).drew = w4 := ⟨_, rfl⟩
      have hnew : w4.heap[w3.heap.size]? = some (.cells #[I64 s, I64 t, .slice (some ⟨g1, 0, none⟩) V.length cap1] 121 (0, 0)) := by rw [← hw4]; exact heap_alloc_new w3 _
      have hB34 : Below w3.heap.size w3 w4 := by rw [← hw4]; exact ((Below.refl _ w3).alloc (Nat.le_refl _) _).drew
      have hz4 : w4.heap.size = w3.heap.size + 1 := by rw [← hw4]; simp
      obtain ⟨n3, hn3⟩ : ∃ n, w3.heap.size = n := ⟨_, rfl⟩
      rw [hw4]
      rw [hn3] at hnew ⊢
      have HN3 : Hid (w3.heap.size = n3) := hn3
      have HZ4 : Hid (w4.heap.size = w3.heap.size + 1) := hz4
      clear hw4 hHeld hn3 hz4
      have hBw4 : Below w.heap.size w w4 := hBw3.trans (hB34.mono hz3)
      have e1 : w4.cell? ⟨g, o + D.length * 3, none⟩ = some (I64 s) ∧ w4.cell? ⟨g, o + D.length * 3 + 1, none⟩ = some (I64 t) ∧ w4.cell? ⟨g, o + D.length * 3 + 2, none⟩ = some (.slice pv V.length cv) := ⟨(hBw4.cell (p := ⟨g, o + D.length * 3, none⟩) hgl).trans v0, (hBw4.cell (p := ⟨g, o + D.length * 3 + 1, none⟩) hgl).trans v1, (hBw4.cell (p := ⟨g, o + D.length * 3 + 2, none⟩) hgl).trans v2⟩
      refine HK.out _ _ e1 (fun hHeld => ?_)
      clear HK K
      try simp only [Act.put, List.setIfInBounds_toArray, List.set_cons_zero, List.set_cons_succ]
      have hout4 := row_below hout3 hB34 (Nat.le_refl _)
      have hall4 := row_below hown3 hB34 (Nat.le_refl _)
      have hrow4 := row_below hrow3 hB34 (Nat.le_refl _)
      have HE4 : Hid (∀ d ∈ D, w4.ownsRow w.heap.size 3 1 d.a (d.l.vs.length + 3) ((d.l.vs ++ [77, 77, 77]).map I64)) := fun d hm => row_below (HE3.out d hm) hB34 (Nat.le_refl _)
      clear HE3 hrow3 hown3 hout3
      have hlnx : ∀ j u, [I64 s, I64 t, Value.slice (some ⟨g1, 0, none⟩) V.length cap1][j]? = some u → w4.cell? ((⟨n3, 0, none⟩ : Addr).add j) = some u := fun j u hj => by
        rw [add_none, cell_of_heap hnew]
        simpa using hj
      simp only [List.append_nil, List.length_nil, Nat.add_zero] at hout4
      refine doneH (i := 21) rfl (by kernel_rfl) (by rfl) (fun K hK => ?_)
      have HK : Hid _ := hK
      clear hK
      refine wp_append_lies _ _ _ _ (by rfl) w.heap.size 121 i1 (.agg #[I64 0, I64 0, .slice none 0 0]) 3 40 Tryz.underlying69 hj hy0 hy1 hy2 rfl (by omega) (.slice po D.length co) D.length (lvRow (D.map Dp.o)) (by rfl) hout4 ⟨n3, 0, none⟩ 1 1 [I64 s, I64 t, .slice (some ⟨g1, 0, none⟩) V.length cap1] (by rfl) (by rfl) hlnx (by simp [Value.oneCell']) (by omega) (by unfold maxLen; omega) (by omega) hBw4.size w4.heap.size rfl ?_
      intro gO cO w5 hown5 hgrow5 hat5 hlt5
      have hne := HNE.out
      have hn3 := HN3.out
      have hz4 := HZ4.out
      have hc5 : Chg (fun k => (Value.slice po D.length co).ownBlock = some k) w4 w5 := (Chg.refl _ w4).grown hgrow5 (fun k e => .inl e)
      have hB45 : Below w.heap.size w4 w5 := hc5.below hBw4.size (fun k hk hs => by have := (hne.2.2.1 k hs).1; omega)
      have hBw5 : Below w.heap.size w w5 := hBw4.trans hB45
      have e2 : w5.cell? ⟨g, o + D.length * 3, none⟩ = some (I64 s) ∧ w5.cell? ⟨g, o + D.length * 3 + 1, none⟩ = some (I64 t) ∧ w5.cell? ⟨g, o + D.length * 3 + 2, none⟩ = some (.slice pv V.length cv) := ⟨(hBw5.cell (p := ⟨g, o + D.length * 3, none⟩) hgl).trans v0, (hBw5.cell (p := ⟨g, o + D.length * 3 + 1, none⟩) hgl).trans v1, (hBw5.cell (p := ⟨g, o + D.length * 3 + 2, none⟩) hgl).trans v2⟩
      have hD5 : DeepAt w5 w.heap.size (.slice (some ⟨gO, 0, none⟩) (D.length + 1) cO) (.slice (some ⟨gA, 0, none⟩) (D.length + 1) cA) (D ++ [Dp.mk ⟨s, t, V⟩ g1 cap1]) [] := by
        have hgO1 : gO ≠ g1 := by
          rcases hat5 with e | e
          · have := (hne.2.2.1 gO e).2; omega
          · omega
        have hgOd : ∀ d ∈ D, gO ≠ d.g := fun d hm => by
          rcases hat5 with e | e
          · intro h; exact hne.2.1 d hm (by rw [e, h])
          · have := (hne.1.1 d hm).2; omega
        have hgOA : gO ≠ gA := by
          rcases hat5 with e | e
          · exact HGA.out gO e
          · omega
        refine ⟨?_, ?_, ?_, ?_, ?_, ?_⟩
        · have h9 := hown5
          simp only [List.map_append, List.append_nil, List.length_append, List.length_nil, Nat.add_zero, List.length_cons, List.map_cons, List.map_nil, lvRow_append]
          simpa [lvRow, lvCells, Dp.o] using h9
        · have h9 := hc5.row hall4 (fun k hk hs => by have hk' : gA = k := (by simpa [Value.ownBlock] using hk); exact HGA.out k hs hk'.symm)
          simpa [Dp.a] using h9
        · intro d hm
          rcases List.mem_append.1 hm with hm | hm
          · exact hc5.row (HE4.out d hm) (fun k hk hs => by rw [Dp.blk] at hk; injection hk with hk; exact hne.2.1 d hm (by rw [hs, hk]))
          · simp only [List.mem_singleton] at hm
            subst hm
            exact hc5.row hrow4 (fun k hk hs => by rw [Dp.blk] at hk; injection hk with hk; have hk' : g1 = k := hk; have := (hne.2.2.1 k hs).2; omega)
        · intro k hk hs
          have hk' : gO = k := by simpa [Value.ownBlock] using hk
          have hs' : gA = k := by simpa [Value.ownBlock] using hs
          omega
        · intro d hm
          rcases List.mem_append.1 hm with hm | hm
          · exact ⟨by simpa [Value.ownBlock] using hgOd d hm, by simpa [Value.ownBlock] using hne.1.2 d hm⟩
          · simp only [List.mem_singleton] at hm
            subst hm
            exact ⟨by simpa [Value.ownBlock] using hgO1, by simpa [Value.ownBlock] using hgA1⟩
        · rw [List.pairwise_append]
          refine ⟨hne.2.2.2, by simp, fun a ha b hb => ?_⟩
          simp only [List.mem_singleton] at hb
          subst hb
          have := (hne.1.1 a ha).2
          show a.g ≠ g1
          omega
      have HD5 : Hid _ := hD5
      clear hHeld hD5 hne hn3 hz4 hc5 hat5 hgrow5 hown5 hall4 hrow4 hout4 HE4 HNE HGA e1 hlnx hnew
      refine HK.out _ _ e2 (fun hHeld => ?_)
      clear HK K
      try simp only [Act.put, List.setIfInBounds_toArray, List.set_cons_zero, List.set_cons_succ]
      refine takeH (i := 22) (v := ?vv21) rfl (by kernel_rfl) (by kernel_rfl) (by kernel_rfl) (fun _ _ _ h => h) (Or.inl ⟨by rfl, ?hy21⟩) (by assumption) ?rest21
      case hy21 => (intro w hSw; (try dsimp only at hSw); go_simp; try with_reducible rfl)
      try simp only [Act.put, List.setIfInBounds_toArray, List.set_cons_zero, List.set_cons_succ]
      clear hHeld e2
      refine wpAnyH_done (by kernel_rfl) ?_ _
      go_wp2
      go_roundw
      case rel => exact ⟨D.length + 1, D ++ [Dp.mk ⟨s, t, V⟩ g1 cap1], by omega, by go_num, by simp, HDn.out g1 cap1, hBw5, HD5.out⟩
      case measure => simp [intOf]; omega
    · have hkn : D.length = X.length := by omega
      have hDX : D.map Dp.l = X.map (fun x => x.1) := by rw [HD.out, List.take_of_length_le (by rw [HN.out]; omega)]
      have HDX : Hid _ := hDX
      clear hDX HD hkn
      obtain ⟨po, co, hvo⟩ := row_slice hD.out
      obtain ⟨pa, ca, hva⟩ := row_slice hD.all
      subst hvo hva
      go_wp2
      go_loopw [4, 8] (fun vo jj wr2 => ∃ j : Nat, j ≤ 3 ∧ jj = .int .i64 j ∧ Below w.heap.size w wr2 ∧ DeepAt wr2 w.heap.size vo (.slice pa D.length ca) D (List.replicate j spareL)) (fun _ jj _ => 3 - (intOf jj).toNat)
      case atStart => exact ⟨0, by omega, rfl, hB, hD⟩
      case round =>
        clear hB hD hz
        obtain ⟨j, hj3, rfl, hB, hD⟩ := hrel
        have hz := hB.size
        obtain ⟨po, co, hvo⟩ := row_slice hD.out
        subst hvo
        rw [List.length_replicate] at hD ⊢
        by_cases hlt3 : j < 3
        · have hlt3' : (j : Int) < 3 := by omega
          have h64 : Hid ((D.length + j + 1) * 40 ≤ 140737488355328 ∧ D.length + j + 1 ≤ maxLen) := deep_b hk hlen hlt3
          clear hlen hk hlt
          have hout := hD.out
          rw [List.length_replicate] at hout
          go_wp2_with (at_builtin; refine wpList_append_lies _ (by rfl) _ _ _ (by rfl) w.heap.size 121 i1 (.agg #[I64 0, I64 0, .slice none 0 0]) 3 40 Tryz.underlying69 hj hy0 hy1 hy2 rfl (by decide) _ (D.length + j) (lvRow (D.map Dp.o ++ List.replicate j spareL)) (by rfl) (hout.alloc _) ⟨wr.heap.size, 0, none⟩ 1 1 [I64 77, I64 0, .slice none 0 0] (by rfl) (by rfl) (World.news_of_block (cs := #[I64 77, I64 0, .slice none 0 0]) (heap_alloc_new _ _)) (by simp [Value.oneCell']) Nat.one_pos h64.out.2 h64.out.1 (by simp; exact Nat.le_succ_of_le hz) (wr.heap.size + 1) (by simp) ?_; intro gO cO w5 hown5 hgrow5 hat5 hlt5)
          have hc5 : Chg (fun k => (Value.slice po (D.length + j) co).ownBlock = some k) wr w5 := (Chg.of_below _ ((Below.refl _ wr).alloc (Nat.le_refl _) _)).grown hgrow5 (fun k e => .inl e)
          have hvol : ∀ k, (Value.slice po (D.length + j) co).ownBlock = some k → w.heap.size ≤ k ∧ k < wr.heap.size := fun k e => hout.lt k e
          have hBw5 : Below w.heap.size w w5 := hB.trans (hc5.below hz (fun k hk hs => by have := (hvol k hs).1; omega))
          have hD5 : DeepAt w5 w.heap.size (.slice (some ⟨gO, 0, none⟩) (D.length + j + 1) cO) (.slice pa D.length ca) D (List.replicate (j + 1) spareL) := by
            refine ⟨?_, hc5.row hD.all (fun k hk hs => hD.ne1 k hs hk), fun d hm => hc5.row (hD.each d hm) (fun k hk hs => by rw [Dp.blk] at hk; injection hk with hk; exact (hD.ne2 d hm).1 (by rw [hs, hk])), ?_, ?_, hD.ap⟩
            · rw [List.length_replicate, List.replicate_succ', ← List.append_assoc, lvRow_append]
              have h9 := hown5
              simpa [lvRow, lvCells, spareL, Nat.add_assoc] using h9
            · intro k hk hs
              have hk' : gO = k := by simpa [Value.ownBlock] using hk
              rcases hat5 with e | e
              · exact hD.ne1 k (by rw [e, hk']) hs
              · have := (hD.all.lt k hs).2; omega
            · intro d hm
              refine ⟨fun hk => ?_, (hD.ne2 d hm).2⟩
              have hk' : gO = d.g := by simpa [Value.ownBlock] using hk
              rcases hat5 with e | e
              · exact (hD.ne2 d hm).1 (by rw [e, hk'])
              · have := ((hD.each d hm).lt d.g rfl).2; omega
          go_roundw
          case rel => exact ⟨j + 1, by omega, by go_num, hBw5, hD5⟩
          case measure => simp [intOf]; omega
        · have hlt3' : ¬ (j : Int) < 3 := by omega
          have hj' : j = 3 := by omega
          have HD3 : Hid (List.replicate j spareL = [spareL, spareL, spareL]) := by show _ = _; rw [hj']; rfl
          clear hj' hlt3
          go_wp2
          refine ⟨rfl, .tuple #[.slice po (D.length + j) co, .slice pa D.length ca], ?_, ⟨_, _, rfl, D, by rw [← HD3.out]; exact hD, HDX.out, hB⟩⟩
          simp only [results, Tryz.f115]
          simp [go_sem]
end Go.Proofs.YtgebcnnenhgkcaaGreat
