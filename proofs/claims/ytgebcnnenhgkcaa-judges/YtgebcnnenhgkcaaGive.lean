/- Vote's inner parts: a vote is given, and taken back where there are too many. -/
import Derived.Test.YtgebcnnenhgkcaaFault
import Derived.Test.YtgebcnnenhgkcaaLay
import Derived.BigRegion
import Derived.Deep.RegionLaw
import Derived.Deep.DeepCutAuto
namespace Go.Proofs.Ytgebcnnenhgkcaa
open Go.RowKit

theorem give1_ok (F C B : Nat) (u : FrameMode) (w : World) (hF : w.cell? ⟨F, 0, none⟩ = some (.int .i64 0)) :
    CallsD Try.prog 63 #[.pointer (some ⟨F, 0, none⟩), .pointer (some ⟨C, 0, none⟩), .pointer (some ⟨B, 0, none⟩)] u w fun e u' w' => u' = u ∧ (e = .returned (.tuple #[]) ∧ w' = w) := by
  go_enter_d Try.func63, Try.ntmps63
  go_wp2
  go_end0
  exact ⟨rfl, rfl⟩

set_option maxHeartbeats 1000000 in
theorem give1_back (F C B b g n cap k : Nat) (f : Int) (u : FrameMode) (w : World) (hF : w.cell? ⟨F, 0, none⟩ = some (.int .i64 f)) (hf0 : (f != 0) = true) (hC : w.cell? ⟨C, 0, none⟩ = some (.pointer (some ⟨b, 0, none⟩))) (hB : w.cell? ⟨B, 0, none⟩ = some (.int .i64 k))
    (hc : w.cell? ⟨b, 4, none⟩ = some (.slice (some ⟨g, 0, none⟩) n cap)) (hf : w.frozen? ⟨b, 4, none⟩ = false) (hk : k ≤ n) (hn : n ≤ cap) :
    CallsD Try.prog 63 #[.pointer (some ⟨F, 0, none⟩), .pointer (some ⟨C, 0, none⟩), .pointer (some ⟨B, 0, none⟩)] u w fun e u' w' => u' = u ∧ (e = .returned (.tuple #[]) ∧ w' = w.drew.setCell ⟨b, 4, none⟩ (.slice (some ⟨g, 0, none⟩) k cap)) := by
  have h1 : (k : Int) ≤ (cap : Int) := by omega
  have h2 : (0 : Int) ≤ (k : Int) := by omega
  go_enter_d Try.func63, Try.ntmps63
  go_wp2
  go_region
  all_goals (go_wp2; go_end0; exact ⟨rfl, rfl⟩)

set_option maxHeartbeats 1000000 in
theorem give1_back_nil (F C B b : Nat) (f : Int) (u : FrameMode) (w : World) (hF : w.cell? ⟨F, 0, none⟩ = some (.int .i64 f)) (hf0 : (f != 0) = true) (hC : w.cell? ⟨C, 0, none⟩ = some (.pointer (some ⟨b, 0, none⟩))) (hB : w.cell? ⟨B, 0, none⟩ = some (.int .i64 0))
    (hc : w.cell? ⟨b, 4, none⟩ = some (.slice none 0 0)) (hf : w.frozen? ⟨b, 4, none⟩ = false) :
    CallsD Try.prog 63 #[.pointer (some ⟨F, 0, none⟩), .pointer (some ⟨C, 0, none⟩), .pointer (some ⟨B, 0, none⟩)] u w fun e u' w' => u' = u ∧ (e = .returned (.tuple #[]) ∧ w' = w.drew.setCell ⟨b, 4, none⟩ (.slice none 0 0)) := by
  go_enter_d Try.func63, Try.ntmps63
  go_wp2
  go_region
  all_goals (go_wp2; go_end0; exact ⟨rfl, rfl⟩)

theorem CourtAt.fault {w : World} {b : Nat} {S : Nat → Prop} {m : Int} {ws ps : List Int} {vs : List Vt} {wv pv vv : Value} (h : CourtAt w b S m ws ps vs wv pv vv) (hT : Tree ps) (hw : 0 < ws.length) (hl : vs.length ≤ 301) :
    ∃ wp wc g gc, FaultAt w b ws.length ps vs wp wc g gc vv := by
  obtain ⟨gw, capw, rfl, _, _, _, _⟩ := row_open h.wrow hw
  obtain ⟨g0, cap0, rfl, hle0, hm0, hcs0, _⟩ := row_open h.prow hT.1
  refine ⟨_, _, _, _, h.c2, ⟨h.c3, hcs0⟩, h.c4, ?_, hT, hl⟩
  by_cases hv : 0 < vs.length
  · obtain ⟨gv, cap, rfl, _, _, hc, _⟩ := vrow_open h.vrow hv
    exact .inr ⟨gv, cap, rfl, hv, hc⟩
  · have : vs = [] := List.eq_nil_of_length_eq_zero (by omega)
    subst this
    rcases h.vrow.2 with ⟨h', _⟩ | ⟨g, cap, cur, rfl, _⟩
    · exact .inl ⟨⟨_, _, h'⟩, rfl⟩
    · exact .inl ⟨⟨_, _, rfl⟩, rfl⟩

/-- The votes' slice stored again as it was. -/
theorem CourtAt.again4 {w : World} {b : Nat} {S : Nat → Prop} {m : Int} {ws ps : List Int} {vs : List Vt} {wv pv vv : Value} (h : CourtAt w b S m ws ps vs wv pv vv) :
    CourtAt (w.setCell ⟨b, 4, none⟩ vv) b S m ws ps vs wv pv vv ∧ Chg S w (w.setCell ⟨b, 4, none⟩ vv) := by
  have hwb : wv.ownBlock ≠ some b := not_row h.wrow h.heap (by decide)
  have hpb : pv.ownBlock ≠ some b := not_row h.prow h.heap (by decide)
  have hvb : vv.ownBlock ≠ some b := not_row h.vrow h.heap (by decide)
  refine ⟨⟨?_, row_setCell h.wrow _ _ hwb, row_setCell h.prow _ _ hpb, row_setCell h.vrow _ _ hvb, h.inb, h.inw, h.inp, h.inv, fun k hk => by simpa [World.setCell] using h.lt k hk, ?_, h.apart⟩, (Chg.refl _ w).setCell (p := ⟨b, 4, none⟩) (.inl h.inb) _⟩
  · rw [heap_setCell_same w b 4 _ _ _ h.heap]; rfl
  · intro k o hk ho
    by_cases e : k = b
    · subst e
      rw [heap_setCell_same w k 4 _ _ _ h.heap] at ho
      simp at ho; subst ho; rfl
    · rw [Below.heap_setCell _ _ _ _ e] at ho
      exact h.cells k o hk ho

theorem give1_same (F C B b : Nat) (S : Nat → Prop) (m : Int) (ws ps : List Int) (vs : List Vt) (wv pv vv : Value) (f : Int) (w : World) (h : CourtAt w b S m ws ps vs wv pv vv) (hF : w.cell? ⟨F, 0, none⟩ = some (.int .i64 f)) (hf0 : (f != 0) = true) (hC : w.cell? ⟨C, 0, none⟩ = some (.pointer (some ⟨b, 0, none⟩))) (hB : w.cell? ⟨B, 0, none⟩ = some (.int .i64 vs.length)) :
    CallsD Try.prog 63 #[.pointer (some ⟨F, 0, none⟩), .pointer (some ⟨C, 0, none⟩), .pointer (some ⟨B, 0, none⟩)] .returning w fun e u' w' => u' = .returning ∧ (e = .returned (.tuple #[]) ∧ w' = w.drew.setCell ⟨b, 4, none⟩ vv) := by
  rcases h.vrow.2 with ⟨h', h''⟩ | ⟨g, cap, cur, h', _, _, hle, _⟩
  · subst h'
    exact give1_back_nil F C B b f .returning w hF hf0 hC (by rw [hB, h'']; rfl) h.c4 (h.fz 4)
  · subst h'
    exact give1_back F C B b g vs.length cap vs.length f .returning w hF hf0 hC hB h.c4 (h.fz 4) (Nat.le_refl _) hle

set_option maxRecDepth 100000 in
set_option maxHeartbeats 1000000 in
theorem give_fault (b : Nat) (S : Nat → Prop) (ws ps : List Int) (vs : List Vt) (wv pv vv : Value) (x : Vt) (w : World) (h : CourtAt w b S 1 ws ps vs wv pv vv) (hT : Tree ps) (hw : 0 < ws.length) (hl : vs.length ≤ 300) (f : Int) (hfa : fault ws.length ps vs x = f) (hf0 : (f != 0) = true) :
    Calls Try.prog 36 #[.pointer (some ⟨b, 0, none⟩), x.val] w fun e w' => e = .returned (.int .i64 f) ∧
      ∃ (S' : Nat → Prop) (vv' : Value), CourtAt w' b S' 1 ws ps vs wv pv vv' ∧ Chg S w w' ∧ (∀ k, S' k → S k ∨ w.heap.size ≤ k) := by
  have hbl := h.lt b h.inb
  have h4 := h.c4
  have hb1 : b < w.heap.size + 1 := by omega
  have hb2 : b < w.heap.size + 1 + 1 := by omega
  have hb3 : b < w.heap.size + 1 + 1 + 1 := by omega
  obtain ⟨vp, vc, hvv⟩ : ∃ vp vc, vv = .slice vp vs.length vc := by
    rcases h.vrow.2 with ⟨h', h''⟩ | ⟨g, cap, cur, h', _⟩
    · exact ⟨none, 0, by rw [h', h'']⟩
    · exact ⟨_, _, h'⟩
  subst hvv
  have hmf : ∀ (fn : Fn) (first cap : Array Value) (w : World), (Instr.makeFunc fn first cap).run Try.prog w = .ok (.func fn first cap) w := fun _ _ _ _ => rfl
  go_enter_defers Try.func36, Try.ntmps36
  go_wp2_with fail
  obtain ⟨W3, hW3⟩ : ∃ W3, (((w.alloc (.cells #[.pointer (some ⟨b, 0, none⟩)] 32)).alloc (.cells #[I64 x.v, I64 x.s, I64 x.t] 70)).alloc (.cells #[.int .i64 0] 51)).alloc (.cells #[.int .i64 vs.length] 3) = W3 := ⟨_, rfl⟩
  have hs3 : W3.heap.size = w.heap.size + 1 + 1 + 1 + 1 := by rw [← hW3]; simp
  have k0 : W3.cell? ⟨w.heap.size, 0, none⟩ = some (.pointer (some ⟨b, 0, none⟩)) := by rw [← hW3]; simp [go_sem]
  have kx0 : W3.cell? ⟨w.heap.size + 1, 0, none⟩ = some (I64 x.v) := by rw [← hW3]; simp [go_sem]
  have kx1 : W3.cell? ⟨w.heap.size + 1, 1, none⟩ = some (I64 x.s) := by rw [← hW3]; simp [go_sem]
  have kx2 : W3.cell? ⟨w.heap.size + 1, 2, none⟩ = some (I64 x.t) := by rw [← hW3]; simp [go_sem]
  have k1 : W3.cell? ⟨w.heap.size + 1 + 1, 0, none⟩ = some (.int .i64 0) := by rw [← hW3]; simp [go_sem]
  have f1 : W3.frozen? ⟨w.heap.size + 1 + 1, 0, none⟩ = false := by rw [← hW3]; simp [go_sem]
  have k2 : W3.cell? ⟨w.heap.size + 1 + 1 + 1, 0, none⟩ = some (.int .i64 vs.length) := by rw [← hW3]; simp [go_sem]
  have hB3 : Below w.heap.size w W3 := by rw [← hW3]; exact ((((Below.refl _ w).alloc (Nat.le_refl _) _).alloc (by simp) _).alloc (by simp; omega) _).alloc (by simp; omega) _
  rw [hW3]
  clear hW3
  have hC3 := h.kept (Chg.of_below (fun _ => False) hB3) (fun _ _ hf => hf)
  obtain ⟨wp, wc, g, gc, hFA⟩ := hC3.fault hT hw (by omega)
  refine (faultOf_at b ws.length ps vs wp wc g gc _ x _ hFA).mono ?_
  rintro e w4 ⟨rfl, hB4⟩
  have m0 : w4.cell? ⟨w.heap.size, 0, none⟩ = some (.pointer (some ⟨b, 0, none⟩)) := (hB4.cell (p := ⟨w.heap.size, 0, none⟩) (by simp; omega)).trans k0
  have mx0 : w4.cell? ⟨w.heap.size + 1, 0, none⟩ = some (I64 x.v) := (hB4.cell (p := ⟨w.heap.size + 1, 0, none⟩) (by simp; omega)).trans kx0
  have mx1 : w4.cell? ⟨w.heap.size + 1, 1, none⟩ = some (I64 x.s) := (hB4.cell (p := ⟨w.heap.size + 1, 1, none⟩) (by simp; omega)).trans kx1
  have mx2 : w4.cell? ⟨w.heap.size + 1, 2, none⟩ = some (I64 x.t) := (hB4.cell (p := ⟨w.heap.size + 1, 2, none⟩) (by simp; omega)).trans kx2
  have m1 : w4.cell? ⟨w.heap.size + 1 + 1, 0, none⟩ = some (.int .i64 0) := (hB4.cell (p := ⟨w.heap.size + 1 + 1, 0, none⟩) (by simp; omega)).trans k1
  have mf1 : w4.frozen? ⟨w.heap.size + 1 + 1, 0, none⟩ = false := (hB4.frozen (p := ⟨w.heap.size + 1 + 1, 0, none⟩) (by simp; omega)).trans f1
  have m2 : w4.cell? ⟨w.heap.size + 1 + 1 + 1, 0, none⟩ = some (.int .i64 vs.length) := (hB4.cell (p := ⟨w.heap.size + 1 + 1 + 1, 0, none⟩) (by simp; omega)).trans k2
  have hB4' : Below w.heap.size w w4 := hB3.trans (hB4.mono (by omega))
  have hs4 : w.heap.size + 1 + 1 + 1 + 1 ≤ w4.heap.size := by have := hB4.size; omega
  clear k0 kx0 kx1 kx2 k1 f1 k2 hC3 hFA hB4 hB3 hs3
  rw [hfa]
  go_wp2_with fail
  obtain ⟨W4, hW4⟩ : ∃ W4, (w4.setCell ⟨w.heap.size + 1 + 1, 0, none⟩ (.int .i64 f)).setCell ⟨w.heap.size + 1 + 1, 0, none⟩ (.int .i64 f) = W4 := ⟨_, rfl⟩
  have hB5 : Below w.heap.size w W4 := by rw [← hW4]; exact (hB4'.setCell (p := ⟨w.heap.size + 1 + 1, 0, none⟩) (by simp; omega) _).setCell (p := ⟨w.heap.size + 1 + 1, 0, none⟩) (by simp; omega) _
  have q0 : W4.cell? ⟨w.heap.size, 0, none⟩ = some (.pointer (some ⟨b, 0, none⟩)) := by rw [← hW4, World.cell?_setCell_other _ _ _ _ (by simp), World.cell?_setCell_other _ _ _ _ (by simp)]; exact m0
  have q1 : W4.cell? ⟨w.heap.size + 1 + 1, 0, none⟩ = some (.int .i64 f) := by rw [← hW4]; exact World.cell?_setCell_same _ _ _ (World.cell?_setCell_same _ _ _ m1)
  have q2 : W4.cell? ⟨w.heap.size + 1 + 1 + 1, 0, none⟩ = some (.int .i64 vs.length) := by rw [← hW4, World.cell?_setCell_other _ _ _ _ (by simp), World.cell?_setCell_other _ _ _ _ (by simp)]; exact m2
  rw [hW4]
  clear hW4 m0 mx0 mx1 mx2 m1 mf1 m2
  have hC4 := h.kept (Chg.of_below (fun _ => False) hB5) (fun _ _ hf => hf)
  have hC5 := hC4.kept (w' := W4.drew) (T := fun _ => False) (Chg.drew (Chg.refl _ _)) (fun _ _ hf => hf)
  refine leaves_cons (f := 63) (args := #[.pointer (some ⟨w.heap.size + 1 + 1, 0, none⟩), .pointer (some ⟨w.heap.size, 0, none⟩), .pointer (some ⟨w.heap.size + 1 + 1 + 1, 0, none⟩)]) (by simp) (by simp [go_sem]) ?_
  refine (give1_same _ _ _ b S 1 ws ps vs wv pv _ f _ hC4 q1 hf0 q0 q2).mono ?_
  rintro e u' w'' ⟨rfl, rfl, rfl⟩
  have hr : (W4.drew.setCell ⟨b, 4, none⟩ (.slice vp vs.length vc)).cell? ⟨w.heap.size + 1 + 1, 0, none⟩ = some (.int .i64 f) := (World.cell?_setCell_other _ _ _ _ (by simp)).trans q1
  obtain ⟨a1, a2⟩ := hC5.again4
  obtain ⟨W5, hW5⟩ : ∃ W5, W4.drew.setCell ⟨b, 4, none⟩ (.slice vp vs.length vc) = W5 := ⟨_, rfl⟩
  rw [hW5] at hr a1 a2 ⊢
  clear hW5
  refine ⟨.int .i64 f, ?_, rfl, S, _, a1, (Chg.of_below S hB5.drew).trans a2, fun k hk => .inl hk⟩
  simp [results, Try.results36, go_sem, hr]
end Go.Proofs.Ytgebcnnenhgkcaa
