/- The proof that Proof gives is right; its links as they lie. -/
import Derived.Test.YtgebcnnenhgkcaaGreatProveA
import Derived.Test.YtgebcnnenhgkcaaGreatPureC
import Derived.Test.YtgebcnnenhgkcaaGreatRefK
namespace Go.Proofs.YtgebcnnenhgkcaaGreat

theorem linkB_en {ws ps : List Int} {vs : List Vt} (hO : OkV ws.length ps vs) {s t : Int} (h : linkB ws vs s t = true) : enB ws (votersL ws.length vs s t) = true := by
  unfold linkB at h
  unfold enB
  rw [wSum_perm ws (votersL_perm hO.v s t)]
  exact h
theorem rise_voters {ws ps : List Int} {vs : List Vt} (hO : OkV ws.length ps vs) (s t : Int) : riseB ws.length 0 (votersL ws.length vs s t) = true := by
  rw [riseB_iff]
  exact ⟨fun v hv => mem_votersL hv, votersL_strict hO s t⟩
theorem okL_mk {ws ps : List Int} {vs : List Vt} (hO : OkV ws.length ps vs) {s t : Int} (h0 : 0 ≤ t) (h1 : t.toNat < ps.length) (ha : s ∈ up ps t) (hl : linkB ws vs s t = true) : okL ws ps s (mkL ws vs (s, t)) = true := by
  unfold okL mkL inB
  simp only [beq_self_eq_true, Bool.true_and, Bool.and_eq_true, decide_eq_true_eq]
  exact ⟨⟨⟨h0, by omega⟩, ahead_mem.2 ha⟩, rise_voters hO s t, linkB_en hO hl⟩
theorem run_chain {ws ps : List Int} {vs : List Vt} (hO : OkV ws.length ps vs) : ∀ {l : List (Int × Int)} {a b : Int}, IsRun (linkB ws vs) ps a l b → chainB ws ps a (l.map (mkL ws vs)) = true ∧ endL a (l.map (mkL ws vs)) = b := by
  intro l
  induction l with
  | nil => intro a b h; exact ⟨rfl, h⟩
  | cons x r ih =>
    obtain ⟨s, t⟩ := x
    rintro a b ⟨rfl, h1, h2, h3, h4, h5⟩
    obtain ⟨i1, i2⟩ := ih h5
    refine ⟨?_, i2⟩
    simp only [List.map_cons, chainB, Bool.and_eq_true]
    exact ⟨okL_mk hO (by omega) h2 h3 h4, i1⟩

structure ProofFine (ws ps : List Int) (vs : List Vt) (a : Int) (L : List Lk) : Prop where
  right : rightB ws ps L = true
  len : (L.length : Int) = stAt (stepsC ws ps vs) a + 1
  last : ∃ l, L[L.length - 1]? = some l ∧ l.s = a
  pos : 0 < L.length
  le : L.length ≤ 40
  all : ∀ l ∈ L, l.vs = votersL ws.length vs l.s l.t
theorem proof_fine {ws ps : List Int} {vs : List Vt} (hT : Tree ps) (hO : OkV ws.length ps vs) {a c : Int} (ha0 : 0 ≤ a) (ha1 : a.toNat < ps.length) (hj : isJust ws ps vs a = true) (hc : childF ws ps vs a = some c) : ProofFine ws ps vs a (proofL ws ps vs a c) := by
  have hD : IsSteps (linkB ws vs) ps (stAt (stepsC ws ps vs)) := stepsL_is (linkB ws vs) hT
  have hle := hD.le a ha0 ha1
  have h40 : stAt (stepsC ws ps vs) a < 40 := by
    unfold isJust at hj
    have : stAt (stepsC ws ps vs) a ≠ 40 := by simpa using hj
    omega
  have hlow := hD.low a ha0 ha1 h40
  obtain ⟨hrun, hlen⟩ := walkS_is hT hD ha0 ha1 h40
  obtain ⟨hch, hend⟩ := run_chain hO hrun
  have hcc : 0 < c ∧ c.toNat < ps.length ∧ ps[c.toNat]?.getD 0 = a ∧ linkB ws vs a c = true := by
    unfold childF childN at hc
    have e1 := List.find?_some hc
    have e2 := List.mem_of_find?_eq_some hc
    simp only [List.mem_map, List.mem_range] at e2
    obtain ⟨i, hi, rfl⟩ := e2
    unfold isChild at e1
    simp only [Bool.and_eq_true, bne_iff_ne, beq_iff_eq] at e1
    exact ⟨by have := e1.1.1; omega, by omega, e1.1.2, e1.2⟩
  obtain ⟨c0, c1, c2, c3⟩ := hcc
  have hup : a ∈ up ps c := by rw [up_step hT c0 c1, c2]; exact List.mem_cons_self ..
  have hlenL : (proofL ws ps vs a c).length = (walkS (linkB ws vs) (stAt (stepsC ws ps vs)) a (up ps a)).2.length + 1 := by unfold proofL; simp
  have hT2 := hT.2.1
  have hlast : (proofL ws ps vs a c)[(proofL ws ps vs a c).length - 1]? = some (mkL ws vs (a, c)) := by
    rw [hlenL]
    unfold proofL
    rw [List.getElem?_append_right (by simp)]
    simp
  have hchain : chainB ws ps 0 (proofL ws ps vs a c) = true := by
    unfold proofL
    rw [chainB_append, hch, hend, Bool.true_and]
    simp only [chainB, Bool.and_true]
    exact okL_mk hO (by omega) c1 hup c3
  refine ⟨?_, by rw [hlenL]; omega, ⟨_, hlast, rfl⟩, by rw [hlenL]; omega, by rw [hlenL]; omega, fun l hl => ?_⟩
  · unfold rightB
    have e1 : endL 0 (proofL ws ps vs a c) = c := endL_last hlast
    have e2 : lastS (proofL ws ps vs a c) = a := by unfold lastS; rw [hlast]; rfl
    rw [hchain, e1, e2, c2]
    have h1 : 1 ≤ (proofL ws ps vs a c).length := by rw [hlenL]; omega
    have h2 : (proofL ws ps vs a c).length ≤ 40 := by rw [hlenL]; omega
    simp [h1, h2]
  · unfold proofL at hl
    rcases List.mem_append.1 hl with h1 | h1
    · obtain ⟨q, _, rfl⟩ := List.mem_map.1 h1
      rfl
    · simp only [List.mem_singleton] at h1
      subst h1
      rfl
end Go.Proofs.YtgebcnnenhgkcaaGreat

namespace Go.Proofs.YtgebcnnenhgkcaaGreat
open Go.RowKit Go.Shelf
theorem row_intsG {w : World} {base : Nat} {v : Value} {l : List Int} (h : w.ownsRow base 3 1 v l.length (l.map I64)) : ∃ p c, v = .slice p l.length c ∧ IntsAt w p l := by
  by_cases h0 : 0 < l.length
  · obtain ⟨g, cap, rfl, _, _, hc, _⟩ := row_open (row_low h) h0
    exact ⟨_, _, rfl, .inr ⟨g, 0, rfl, fun j hj => by rw [Nat.zero_add]; exact hc j hj⟩⟩
  · have hl : l = [] := List.length_eq_zero_iff.1 (by omega)
    subst hl
    rcases h.2 with ⟨rfl, _⟩ | ⟨g, cap, cur, rfl, _⟩
    · exact ⟨none, 0, rfl, .inl rfl⟩
    · exact ⟨_, _, rfl, .inl rfl⟩
theorem LinksAt.lk {w : World} {base : Nat} {v : Value} {X : List LkV} (h : LinksAt w base v X) : ∃ p c, v = .slice p X.length c ∧ LkAt w p X ∧ X.length ≤ maxLen := by
  have hvs : ∀ x ∈ X, ∃ p c, x.2 = .slice p x.1.vs.length c ∧ IntsAt w p x.1.vs ∧ x.1.vs.length ≤ maxLen := fun x hx => by
    have hr := h.each x hx
    obtain ⟨p, c, e, hi⟩ := row_intsG hr
    refine ⟨p, c, e, hi, ?_⟩
    rcases hr.2 with ⟨_, hn⟩ | ⟨_, cap, _, _, _, _, hle, hm, _⟩
    · omega
    · omega
  rcases h.row.2 with ⟨rfl, hn⟩ | ⟨g, cap, cur, rfl, hb, hg, hle, hm, hs, ht⟩
  · have h0 : X = [] := List.length_eq_zero_iff.1 hn
    exact ⟨none, 0, by rw [hn], ⟨.inl h0, hvs⟩, by omega⟩
  · refine ⟨_, _, rfl, ⟨.inr ⟨g, 0, rfl, fun j x hj => ?_⟩, hvs⟩, by omega⟩
    have hjl := (List.getElem?_eq_some_iff.1 hj).1
    have c0 := lvRow_at hj (i := 0) (u := I64 x.1.s) rfl
    have c1 := lvRow_at hj (i := 1) (u := I64 x.1.t) rfl
    have c2 := lvRow_at hj (i := 2) (u := x.2) rfl
    refine ⟨?_, ?_, ?_⟩
    · rw [(row_low h.row).cellAt _ (by omega)]; simpa using c0
    · rw [(row_low h.row).cellAt _ (by omega)]; simpa using c1
    · rw [(row_low h.row).cellAt _ (by omega)]; simpa using c2

end Go.Proofs.YtgebcnnenhgkcaaGreat
