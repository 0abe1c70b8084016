/- The statements without the document's answer: named. -/
import Derived.Test.YtgebcnnenhgkcaaGreatKeepC
import Derived.Test.YtgebcnnenhgkcaaGreatHeld
import Derived.Test.YtgebcnnenhgkcaaGreatPureD
namespace Go.Proofs.YtgebcnnenhgkcaaGreat
open Go.RowKit Go.Shelf

/-- A list of guilts as it lies. -/
def GCells (w : World) (g : Nat) (G : List Gu) : Prop := ∀ j gu, G[j]? = some gu → ∀ i u, (guCells gu)[i]? = some u → w.cell? ⟨g, j * 8 + i, none⟩ = some u
def GLies (w : World) (p : Option Addr) (G : List Gu) : Prop := G = [] ∨ ∃ g, p = some ⟨g, 0, none⟩ ∧ GCells w g G
def VLies (w : World) (p : Option Addr) (vs : List Vt) : Prop := vs = [] ∨ ∃ g, p = some ⟨g, 0, none⟩ ∧ VCells w g vs

set_option maxRecDepth 100000 in
set_option maxHeartbeats 4000000 in
theorem named_at (bt gT capT cG cV gW cW : Nat) (pG pV : Option Addr) (ps ws : List Int) (vs : List Vt) (G : List Gu) (hT : Tree ps) (hO : ∀ y ∈ vs, OkB ps y) (hW : OkWs ws) (hvl : vs.length ≤ 2000) (hGl : G.length ≤ 12) (hof : ∀ gu ∈ G, GuOf ws.length ps vs gu) (hup : G.Pairwise (fun a b => a.v < b.v)) (w : World)
    (hA : TreeAt w bt 0 gT capT ps) (hG : GLies w pG G) (hV : VLies w pV vs) (hcw : ∀ j, j < ws.length → w.cell? ⟨gW, j, none⟩ = some (I64 (ws[j]?.getD 0))) :
    Calls Tryz.prog 29 #[.pointer (some ⟨bt, 0, none⟩), .slice pG G.length cG, .slice pV vs.length cV, .slice (some ⟨gW, 0, none⟩) ws.length cW] w fun e w' =>
      e = .returned (.tuple #[.int .i64 (wSum ws (G.map (fun g => g.v))), .bool true]) ∧ Below w.heap.size w w' := by
  have hw12 := hW.le
  have HO : Hid (∀ gu ∈ G, GuOf ws.length ps vs gu) := hof
  have HU : Hid (G.Pairwise (fun a b => a.v < b.v)) := hup
  have HCW : Hid (∀ j, j < ws.length → w.cell? ⟨gW, j, none⟩ = some (I64 (ws[j]?.getD 0))) := hcw
  clear hof hup hcw
  go_enter Tryz.func29, Tryz.ntmps29
  go_wp2_with fail
  go_loopw [10, 11] (fun s ii wr => ∃ k : Nat, k ≤ G.length ∧ ii = .int .i64 k ∧ s = .int .i64 (wSum ws ((G.take k).map (fun g => g.v))) ∧ 0 ≤ wSum ws ((G.take k).map (fun g => g.v)) ∧ wSum ws ((G.take k).map (fun g => g.v)) ≤ 100 * k ∧ Below w.heap.size w wr) (fun _ ii _ => G.length - (intOf ii).toNat)
  case atStart => exact ⟨0, by omega, rfl, rfl, by simp [wSum, sumI_nil], by simp [wSum, sumI_nil], Below.refl _ _⟩
  case round =>
    obtain ⟨k, hk, rfl, rfl, hs0, hs1, hB⟩ := hrel
    have hz := hB.size
    by_cases hlt : k < G.length
    · have hlt' : (k : Int) < (G.length : Int) := by omega
      obtain ⟨gu, hgu⟩ : ∃ gu, G[k]? = some gu := ⟨_, List.getElem?_eq_getElem hlt⟩
      rcases hG with rfl | ⟨gG, rfl, hG⟩
      · simp at hlt
      have hgof := HO.out gu (List.mem_of_getElem? hgu)
      have hgl : gG < w.heap.size := World.block_lt_of_cell? w _ (hG k gu hgu 0 _ rfl)
      have cells : ∀ i u, (guCells gu)[i]? = some u → wr.cell? ⟨gG, k * 8 + i, none⟩ = some u := fun i u h => (hB.cell (p := ⟨gG, k * 8 + i, none⟩) hgl).trans (hG k gu hgu i u h)
      have c0 : wr.cell? ⟨gG, k * 8, none⟩ = some (I64 gu.v) := cells 0 _ rfl
      have c1 : wr.cell? ⟨gG, k * 8 + 1, none⟩ = some (I64 gu.k) := cells 1 _ rfl
      have c2 : wr.cell? ⟨gG, k * 8 + 2, none⟩ = some (I64 gu.a.v) := cells 2 _ rfl
      have c3 : wr.cell? ⟨gG, k * 8 + 3, none⟩ = some (I64 gu.a.s) := cells 3 _ rfl
      have c4 : wr.cell? ⟨gG, k * 8 + 4, none⟩ = some (I64 gu.a.t) := cells 4 _ rfl
      have c5 : wr.cell? ⟨gG, k * 8 + 5, none⟩ = some (I64 gu.b.v) := cells 5 _ rfl
      have c6 : wr.cell? ⟨gG, k * 8 + 6, none⟩ = some (I64 gu.b.s) := cells 6 _ rfl
      have c7 : wr.cell? ⟨gG, k * 8 + 7, none⟩ = some (I64 gu.b.t) := cells 7 _ rfl
      clear cells
      obtain ⟨T, hTT⟩ : ∃ T, wSum ws ((G.take k).map (fun g => g.v)) = T := ⟨_, rfl⟩
      rw [hTT] at hs0 hs1 ⊢
      have HTT : Hid (wSum ws ((G.take k).map (fun g => g.v)) = T) := hTT
      clear hTT
      go_wp2_with fail
      obtain ⟨W, hW'⟩ : ∃ W, wr.alloc (.cells #[I64 gu.v, I64 gu.k, I64 gu.a.v, I64 gu.a.s, I64 gu.a.t, I64 gu.b.v, I64 gu.b.s, I64 gu.b.t] 84) = W := ⟨_, rfl⟩
      have hBW : Below w.heap.size w W := by rw [← hW']; exact hB.alloc hz _
      have hWo : W.heap[wr.heap.size]? = some (.cells #[I64 gu.v, I64 gu.k, I64 gu.a.v, I64 gu.a.s, I64 gu.a.t, I64 gu.b.v, I64 gu.b.s, I64 gu.b.t] 84 (0, 0)) := by rw [← hW']; exact heap_alloc_new wr _
      have hWz : W.heap.size = wr.heap.size + 1 := by rw [← hW']; simp
      obtain ⟨n, hn⟩ : ∃ n, wr.heap.size = n := ⟨_, rfl⟩
      rw [hW', hn]
      rw [hn] at hWo hz hWz
      clear hW' hn c0 c1 c2 c3 c4 c5 c6 c7 hB
      have d0 : W.cell? ⟨n, 0, none⟩ = some (I64 gu.v) := by rw [cell_of_heap hWo]; rfl
      have d2 : W.cell? ⟨n, 2, none⟩ = some (I64 gu.a.v) := by rw [cell_of_heap hWo]; rfl
      have d3 : W.cell? ⟨n, 3, none⟩ = some (I64 gu.a.s) := by rw [cell_of_heap hWo]; rfl
      have d4 : W.cell? ⟨n, 4, none⟩ = some (I64 gu.a.t) := by rw [cell_of_heap hWo]; rfl
      have d5 : W.cell? ⟨n, 5, none⟩ = some (I64 gu.b.v) := by rw [cell_of_heap hWo]; rfl
      have d6 : W.cell? ⟨n, 6, none⟩ = some (I64 gu.b.s) := by rw [cell_of_heap hWo]; rfl
      have d7 : W.cell? ⟨n, 7, none⟩ = some (I64 gu.b.t) := by rw [cell_of_heap hWo]; rfl
      have f0 : ¬ gu.v < 0 := by have := hgof.v0; omega
      have f1 : ¬ gu.v ≥ (ws.length : Int) := by have := hgof.v1; omega
      have f2 : (gu.a.v != gu.v) = false := by simpa using hgof.av
      have f3 : (gu.b.v != gu.v) = false := by simpa using hgof.bv
      have HGO : Hid (GuOf ws.length ps vs gu) := hgof
      have HGU : Hid (G[k]? = some gu) := hgu
      clear hgof hgu hWo
      by_cases hk0 : k = 0
      · have hk0' : ¬ (k : Int) > 0 := by omega
        refine wp_region_held_drew (S := fun w' => w'.cell? ⟨n, 0, none⟩ = some (I64 gu.v) ∧ w'.cell? ⟨n, 2, none⟩ = some (I64 gu.a.v) ∧ w'.cell? ⟨n, 5, none⟩ = some (I64 gu.b.v)) (by kernel_rfl) ⟨d0, d2, d5⟩ (fun hHeld => ?_)
        refine takeH (i := 0) (v := ?vv1) rfl (by kernel_rfl) (by kernel_rfl) (by kernel_rfl) (fun _ _ _ h => h) (Or.inl ⟨by rfl, ?hy1⟩) (by assumption) ?rest1
        case hy1 => (intro w hSw; (try dsimp only at hSw); go_simp; try with_reducible rfl)
        try simp only [Act.put, List.setIfInBounds_toArray, List.set_cons_zero, List.set_cons_succ]
        refine takeH (i := 1) (v := ?vv2) rfl (by kernel_rfl) (by kernel_rfl) (by kernel_rfl) (fun _ _ _ h => h) (Or.inl ⟨by rfl, ?hy2⟩) (by assumption) ?rest2
        case hy2 => (intro w hSw; (try dsimp only at hSw); go_simp; try with_reducible rfl)
        try simp only [Act.put, List.setIfInBounds_toArray, List.set_cons_zero, List.set_cons_succ]
        refine takeH (i := 2) (v := .bool false) rfl (by kernel_rfl) (by kernel_rfl) (by kernel_rfl) (fun _ _ _ h => h) (Or.inl ⟨by rfl, ?hy3⟩) (by assumption) ?rest3
        case hy3 => (intro w hSw; (try dsimp only at hSw); go_simp; try simp [*]; try omega)
        try simp only [Act.put, List.setIfInBounds_toArray, List.set_cons_zero, List.set_cons_succ]
        refine takeH (i := 3) (v := ?vv4) rfl (by kernel_rfl) (by kernel_rfl) (by kernel_rfl) (fun _ _ _ h => h) (Or.inl ⟨by rfl, ?hy4⟩) (by assumption) ?rest4
        case hy4 => (intro w hSw; (try dsimp only at hSw); go_simp; try with_reducible rfl)
        try simp only [Act.put, List.setIfInBounds_toArray, List.set_cons_zero, List.set_cons_succ]
        refine takeH (i := 4) (v := ?vv5) rfl (by kernel_rfl) (by kernel_rfl) (by kernel_rfl) (fun _ _ _ h => h) (Or.inl ⟨by rfl, ?hy5⟩) (by assumption) ?rest5
        case hy5 => (intro w hSw; (try dsimp only at hSw); go_simp; try with_reducible rfl)
        try simp only [Act.put, List.setIfInBounds_toArray, List.set_cons_zero, List.set_cons_succ]
        refine takeH (i := 5) (v := ?vv6) rfl (by kernel_rfl) (by kernel_rfl) (by kernel_rfl) (fun _ _ _ h => h) (Or.inl ⟨by rfl, ?hy6⟩) (by assumption) ?rest6
        case hy6 => (intro w hSw; (try dsimp only at hSw); go_simp; try with_reducible rfl)
        try simp only [Act.put, List.setIfInBounds_toArray, List.set_cons_zero, List.set_cons_succ]
        refine takeH (i := 6) (v := ?vv7) rfl (by kernel_rfl) (by kernel_rfl) (by kernel_rfl) (fun _ _ _ h => h) (Or.inl ⟨by rfl, ?hy7⟩) (by assumption) ?rest7
        case hy7 => (intro w hSw; (try dsimp only at hSw); go_simp; try with_reducible rfl)
        try simp only [Act.put, List.setIfInBounds_toArray, List.set_cons_zero, List.set_cons_succ]
        refine takeH (i := 7) (v := ?vv8) rfl (by kernel_rfl) (by kernel_rfl) (by kernel_rfl) (fun _ _ _ h => h) (Or.inl ⟨by rfl, ?hy8⟩) (by assumption) ?rest8
        case hy8 => (intro w hSw; (try dsimp only at hSw); go_simp; try with_reducible rfl)
        try simp only [Act.put, List.setIfInBounds_toArray, List.set_cons_zero, List.set_cons_succ]
        refine takeH (i := 8) (v := .bool false) rfl (by kernel_rfl) (by kernel_rfl) (by kernel_rfl) (fun _ _ _ h => h) (Or.inl ⟨by rfl, ?hy9⟩) (by assumption) ?rest9
        case hy9 => (intro w hSw; (try dsimp only at hSw); go_simp; try simp [*]; try omega)
        try simp only [Act.put, List.setIfInBounds_toArray, List.set_cons_zero, List.set_cons_succ]
        refine takeH (i := 9) (v := ?vv10) rfl (by kernel_rfl) (by kernel_rfl) (by kernel_rfl) (fun _ _ _ h => h) (Or.inl ⟨by rfl, ?hy10⟩) (by assumption) ?rest10
        case hy10 => (intro w hSw; (try dsimp only at hSw); go_simp; try with_reducible rfl)
        try simp only [Act.put, List.setIfInBounds_toArray, List.set_cons_zero, List.set_cons_succ]
        refine takeH (i := 10) (v := ?vv11) rfl (by kernel_rfl) (by kernel_rfl) (by kernel_rfl) (fun _ _ _ h => h) (Or.inl ⟨by rfl, ?hy11⟩) (by assumption) ?rest11
        case hy11 => (intro w hSw; (try dsimp only at hSw); go_simp; try with_reducible rfl)
        try simp only [Act.put, List.setIfInBounds_toArray, List.set_cons_zero, List.set_cons_succ]
        refine takeH (i := 11) (v := ?vv12) rfl (by kernel_rfl) (by kernel_rfl) (by kernel_rfl) (fun _ _ _ h => h) (Or.inl ⟨by rfl, ?hy12⟩) (by assumption) ?rest12
        case hy12 => (intro w hSw; (try dsimp only at hSw); go_simp; try with_reducible rfl)
        try simp only [Act.put, List.setIfInBounds_toArray, List.set_cons_zero, List.set_cons_succ]
        refine takeH (i := 12) (v := .bool false) rfl (by kernel_rfl) (by kernel_rfl) (by kernel_rfl) (fun _ _ _ h => h) (Or.inl ⟨by rfl, ?hy13⟩) (by assumption) ?rest13
        case hy13 => (intro w hSw; (try dsimp only at hSw); go_simp; try simp [*]; try omega)
        try simp only [Act.put, List.setIfInBounds_toArray, List.set_cons_zero, List.set_cons_succ]
        refine takeH (i := 13) (v := ?vv14) rfl (by kernel_rfl) (by kernel_rfl) (by kernel_rfl) (fun _ _ _ h => h) (Or.inl ⟨by rfl, ?hy14⟩) (by assumption) ?rest14
        case hy14 => (intro w hSw; (try dsimp only at hSw); go_simp; try with_reducible rfl)
        try simp only [Act.put, List.setIfInBounds_toArray, List.set_cons_zero, List.set_cons_succ]
        refine takeH (i := 14) (v := undef) rfl (by kernel_rfl) (by kernel_rfl) (by kernel_rfl) (fun _ _ _ h => h) (Or.inr ⟨by rfl, rfl⟩) (by assumption) ?rest15
        try simp only [Act.put, List.setIfInBounds_toArray, List.set_cons_zero, List.set_cons_succ]
        refine takeH (i := 15) (v := undef) rfl (by kernel_rfl) (by kernel_rfl) (by kernel_rfl) (fun _ _ _ h => h) (Or.inr ⟨by rfl, rfl⟩) (by assumption) ?rest16
        try simp only [Act.put, List.setIfInBounds_toArray, List.set_cons_zero, List.set_cons_succ]
        refine takeH (i := 16) (v := undef) rfl (by kernel_rfl) (by kernel_rfl) (by kernel_rfl) (fun _ _ _ h => h) (Or.inr ⟨by rfl, rfl⟩) (by assumption) ?rest17
        try simp only [Act.put, List.setIfInBounds_toArray, List.set_cons_zero, List.set_cons_succ]
        refine takeH (i := 17) (v := undef) rfl (by kernel_rfl) (by kernel_rfl) (by kernel_rfl) (fun _ _ _ h => h) (Or.inr ⟨by rfl, rfl⟩) (by assumption) ?rest18
        try simp only [Act.put, List.setIfInBounds_toArray, List.set_cons_zero, List.set_cons_succ]
        refine takeH (i := 18) (v := undef) rfl (by kernel_rfl) (by kernel_rfl) (by kernel_rfl) (fun _ _ _ h => h) (Or.inr ⟨by rfl, rfl⟩) (by assumption) ?rest19
        try simp only [Act.put, List.setIfInBounds_toArray, List.set_cons_zero, List.set_cons_succ]
        refine takeH (i := 19) (v := undef) rfl (by kernel_rfl) (by kernel_rfl) (by kernel_rfl) (fun _ _ _ h => h) (Or.inr ⟨by rfl, rfl⟩) (by assumption) ?rest20
        try simp only [Act.put, List.setIfInBounds_toArray, List.set_cons_zero, List.set_cons_succ]
        refine takeH (i := 20) (v := undef) rfl (by kernel_rfl) (by kernel_rfl) (by kernel_rfl) (fun _ _ _ h => h) (Or.inr ⟨by rfl, rfl⟩) (by assumption) ?rest21
        try simp only [Act.put, List.setIfInBounds_toArray, List.set_cons_zero, List.set_cons_succ]
        refine takeH (i := 21) (v := undef) rfl (by kernel_rfl) (by kernel_rfl) (by kernel_rfl) (fun _ _ _ h => h) (Or.inr ⟨by rfl, rfl⟩) (by assumption) ?rest22
        try simp only [Act.put, List.setIfInBounds_toArray, List.set_cons_zero, List.set_cons_succ]
        refine takeH (i := 22) (v := undef) rfl (by kernel_rfl) (by kernel_rfl) (by kernel_rfl) (fun _ _ _ h => h) (Or.inr ⟨by rfl, rfl⟩) (by assumption) ?rest23
        try simp only [Act.put, List.setIfInBounds_toArray, List.set_cons_zero, List.set_cons_succ]
        refine takeH (i := 23) (v := ?vv24) rfl (by kernel_rfl) (by kernel_rfl) (by kernel_rfl) (fun _ _ _ h => h) (Or.inl ⟨by rfl, ?hy24⟩) (by assumption) ?rest24
        case hy24 => (intro w hSw; (try dsimp only at hSw); go_simp; try with_reducible rfl)
        try simp only [Act.put, List.setIfInBounds_toArray, List.set_cons_zero, List.set_cons_succ]
        refine takeH (i := 24) (v := ?vv25) rfl (by kernel_rfl) (by kernel_rfl) (by kernel_rfl) (fun _ _ _ h => h) (Or.inl ⟨by rfl, ?hy25⟩) (by assumption) ?rest25
        case hy25 => (intro w hSw; (try dsimp only at hSw); go_simp; try with_reducible rfl)
        try simp only [Act.put, List.setIfInBounds_toArray, List.set_cons_zero, List.set_cons_succ]
        refine takeH (i := 25) (v := ?vv26) rfl (by kernel_rfl) (by kernel_rfl) (by kernel_rfl) (fun _ _ _ h => h) (Or.inl ⟨by rfl, ?hy26⟩) (by assumption) ?rest26
        case hy26 => (intro w hSw; (try dsimp only at hSw); go_simp; try with_reducible rfl)
        try simp only [Act.put, List.setIfInBounds_toArray, List.set_cons_zero, List.set_cons_succ]
        refine takeH (i := 26) (v := ?vv27) rfl (by kernel_rfl) (by kernel_rfl) (by kernel_rfl) (fun _ _ _ h => h) (Or.inl ⟨by rfl, ?hy27⟩) (by assumption) ?rest27
        case hy27 => (intro w hSw; (try dsimp only at hSw); go_simp; try with_reducible rfl)
        try simp only [Act.put, List.setIfInBounds_toArray, List.set_cons_zero, List.set_cons_succ]
        refine takeH (i := 27) (v := ?vv28) rfl (by kernel_rfl) (by kernel_rfl) (by kernel_rfl) (fun _ _ _ h => h) (Or.inl ⟨by rfl, ?hy28⟩) (by assumption) ?rest28
        case hy28 => (intro w hSw; (try dsimp only at hSw); go_simp; try with_reducible rfl)
        try simp only [Act.put, List.setIfInBounds_toArray, List.set_cons_zero, List.set_cons_succ]
        refine takeH (i := 28) (v := ?vv29) rfl (by kernel_rfl) (by kernel_rfl) (by kernel_rfl) (fun _ _ _ h => h) (Or.inl ⟨by rfl, ?hy29⟩) (by assumption) ?rest29
        case hy29 => (intro w hSw; (try dsimp only at hSw); go_simp; try with_reducible rfl)
        try simp only [Act.put, List.setIfInBounds_toArray, List.set_cons_zero, List.set_cons_succ]
        refine takeH (i := 29) (v := ?vv30) rfl (by kernel_rfl) (by kernel_rfl) (by kernel_rfl) (fun _ _ _ h => h) (Or.inl ⟨by rfl, ?hy30⟩) (by assumption) ?rest30
        case hy30 => (intro w hSw; (try dsimp only at hSw); go_simp; try with_reducible rfl)
        try simp only [Act.put, List.setIfInBounds_toArray, List.set_cons_zero, List.set_cons_succ]
        refine takeH (i := 30) (v := ?vv31) rfl (by kernel_rfl) (by kernel_rfl) (by kernel_rfl) (fun _ _ _ h => h) (Or.inl ⟨by rfl, ?hy31⟩) (by assumption) ?rest31
        case hy31 => (intro w hSw; (try dsimp only at hSw); go_simp; try with_reducible rfl)
        try simp only [Act.put, List.setIfInBounds_toArray, List.set_cons_zero, List.set_cons_succ]
        refine takeH (i := 31) (v := .bool false) rfl (by kernel_rfl) (by kernel_rfl) (by kernel_rfl) (fun _ _ _ h => h) (Or.inl ⟨by rfl, ?hy32⟩) (by assumption) ?rest32
        case hy32 => (intro w hSw; (try dsimp only at hSw); go_simp; try simp [*]; try omega)
        try simp only [Act.put, List.setIfInBounds_toArray, List.set_cons_zero, List.set_cons_succ]
        refine takeH (i := 32) (v := ?vv33) rfl (by kernel_rfl) (by kernel_rfl) (by kernel_rfl) (fun _ _ _ h => h) (Or.inl ⟨by rfl, ?hy33⟩) (by assumption) ?rest33
        case hy33 => (intro w hSw; (try dsimp only at hSw); go_simp; try with_reducible rfl)
        try simp only [Act.put, List.setIfInBounds_toArray, List.set_cons_zero, List.set_cons_succ]
        refine takeH (i := 33) (v := ?vv34) rfl (by kernel_rfl) (by kernel_rfl) (by kernel_rfl) (fun _ _ _ h => h) (Or.inl ⟨by rfl, ?hy34⟩) (by assumption) ?rest34
        case hy34 => (intro w hSw; (try dsimp only at hSw); go_simp; try with_reducible rfl)
        try simp only [Act.put, List.setIfInBounds_toArray, List.set_cons_zero, List.set_cons_succ]
        refine takeH (i := 34) (v := ?vv35) rfl (by kernel_rfl) (by kernel_rfl) (by kernel_rfl) (fun _ _ _ h => h) (Or.inl ⟨by rfl, ?hy35⟩) (by assumption) ?rest35
        case hy35 => (intro w hSw; (try dsimp only at hSw); go_simp; try with_reducible rfl)
        try simp only [Act.put, List.setIfInBounds_toArray, List.set_cons_zero, List.set_cons_succ]
        refine takeH (i := 35) (v := ?vv36) rfl (by kernel_rfl) (by kernel_rfl) (by kernel_rfl) (fun _ _ _ h => h) (Or.inl ⟨by rfl, ?hy36⟩) (by assumption) ?rest36
        case hy36 => (intro w hSw; (try dsimp only at hSw); go_simp; try with_reducible rfl)
        try simp only [Act.put, List.setIfInBounds_toArray, List.set_cons_zero, List.set_cons_succ]
        refine takeH (i := 36) (v := ?vv37) rfl (by kernel_rfl) (by kernel_rfl) (by kernel_rfl) (fun _ _ _ h => h) (Or.inl ⟨by rfl, ?hy37⟩) (by assumption) ?rest37
        case hy37 => (intro w hSw; (try dsimp only at hSw); go_simp; try with_reducible rfl)
        try simp only [Act.put, List.setIfInBounds_toArray, List.set_cons_zero, List.set_cons_succ]
        refine takeH (i := 37) (v := ?vv38) rfl (by kernel_rfl) (by kernel_rfl) (by kernel_rfl) (fun _ _ _ h => h) (Or.inl ⟨by rfl, ?hy38⟩) (by assumption) ?rest38
        case hy38 => (intro w hSw; (try dsimp only at hSw); go_simp; try with_reducible rfl)
        try simp only [Act.put, List.setIfInBounds_toArray, List.set_cons_zero, List.set_cons_succ]
        refine takeH (i := 38) (v := ?vv39) rfl (by kernel_rfl) (by kernel_rfl) (by kernel_rfl) (fun _ _ _ h => h) (Or.inl ⟨by rfl, ?hy39⟩) (by assumption) ?rest39
        case hy39 => (intro w hSw; (try dsimp only at hSw); go_simp; try with_reducible rfl)
        try simp only [Act.put, List.setIfInBounds_toArray, List.set_cons_zero, List.set_cons_succ]
        refine takeH (i := 39) (v := .bool false) rfl (by kernel_rfl) (by kernel_rfl) (by kernel_rfl) (fun _ _ _ h => h) (Or.inl ⟨by rfl, ?hy40⟩) (by assumption) ?rest40
        case hy40 => (intro w hSw; (try dsimp only at hSw); go_simp; try simp [*]; try omega)
        try simp only [Act.put, List.setIfInBounds_toArray, List.set_cons_zero, List.set_cons_succ]
        refine takeH (i := 40) (v := ?vv41) rfl (by kernel_rfl) (by kernel_rfl) (by kernel_rfl) (fun _ _ _ h => h) (Or.inl ⟨by rfl, ?hy41⟩) (by assumption) ?rest41
        case hy41 => (intro w hSw; (try dsimp only at hSw); go_simp; try with_reducible rfl)
        try simp only [Act.put, List.setIfInBounds_toArray, List.set_cons_zero, List.set_cons_succ]
        clear hHeld
        refine wpAnyH_done (by kernel_rfl) ?_ _
        clear hk0 hk0'
        go_wp2_with fail
        go_loopw [13, 14, 15] (fun one other kk wq => ∃ (q c1 c2 : Nat), q ≤ vs.length ∧ kk = .int .i64 q ∧ one = .int .i64 c1 ∧ other = .int .i64 c2 ∧ c1 ≤ q ∧ c2 ≤ q ∧ Hid (∀ j, j < q → vs[j]? = some gu.a → 0 < c1) ∧ Hid (∀ j, j < q → vs[j]? = some gu.b → 0 < c2) ∧ Below (n + 1) W wq) (fun _ _ kk _ => vs.length - (intOf kk).toNat)
        case atStart => exact ⟨0, 0, 0, by omega, rfl, rfl, rfl, by omega, by omega, fun j h => by omega, fun j h => by omega, (Below.refl _ W).drew⟩
        case round =>
          obtain ⟨q, e1, e2, hq, rfl, rfl, rfl, hq1, hq2, H1, H2, hBq⟩ := hrel
          have g2 : wr.cell? ⟨n, 2, none⟩ = some (I64 gu.a.v) := (hBq.cell (p := ⟨n, 2, none⟩) (by simp)).trans d2
          have g3 : wr.cell? ⟨n, 3, none⟩ = some (I64 gu.a.s) := (hBq.cell (p := ⟨n, 3, none⟩) (by simp)).trans d3
          have g4 : wr.cell? ⟨n, 4, none⟩ = some (I64 gu.a.t) := (hBq.cell (p := ⟨n, 4, none⟩) (by simp)).trans d4
          have g5 : wr.cell? ⟨n, 5, none⟩ = some (I64 gu.b.v) := (hBq.cell (p := ⟨n, 5, none⟩) (by simp)).trans d5
          have g6 : wr.cell? ⟨n, 6, none⟩ = some (I64 gu.b.s) := (hBq.cell (p := ⟨n, 6, none⟩) (by simp)).trans d6
          have g7 : wr.cell? ⟨n, 7, none⟩ = some (I64 gu.b.t) := (hBq.cell (p := ⟨n, 7, none⟩) (by simp)).trans d7
          by_cases hqlt : q < vs.length
          · have hqlt' : (q : Int) < (vs.length : Int) := by omega
            rcases hV with rfl | ⟨gV, rfl, hV⟩
            · simp at hqlt
            obtain ⟨x, hx⟩ : ∃ x, vs[q]? = some x := ⟨_, List.getElem?_eq_getElem hqlt⟩
            have hvl2 := VCells.lt hV (by omega)
            obtain ⟨v0, v1, v2⟩ := (hV.below hBW hvl2).below hBq (by omega) q x hx
            have HX : Hid (vs[q]? = some x) := hx
            clear hx
            have heq1 := vote_eql x gu.a
            have heq2 := vote_eql x gu.b
            have n1 : x.is gu.a = false → ∀ j, j < q + 1 → vs[j]? = some gu.a → 0 < e1 := fun hf j hj hg => by
              by_cases e : j = q
              · subst e
                rw [HX.out] at hg
                injection hg with hg
                rw [Vt.is_iff.2 hg] at hf
                cases hf
              · exact H1.out j (by omega) hg
            have n2 : x.is gu.b = false → ∀ j, j < q + 1 → vs[j]? = some gu.b → 0 < e2 := fun hf j hj hg => by
              by_cases e : j = q
              · subst e
                rw [HX.out] at hg
                injection hg with hg
                rw [Vt.is_iff.2 hg] at hf
                cases hf
              · exact H2.out j (by omega) hg
            have N1 : Hid _ := n1
            have N2 : Hid _ := n2
            clear n1 n2
            cases hxa : x.is gu.a <;> cases hxb : x.is gu.b
            · go_wp2
              go_quiet (fail)
              go_wp2
              go_quiet (fail)
              go_wp2
              go_roundw
              case rel => exact ⟨q + 1, e1, e2, by omega, by go_num, rfl, rfl, by omega, by omega, N1.out hxa, N2.out hxb, below_drewN hBq _⟩
              case measure => simp [intOf]; omega
            · go_wp2
              go_quiet (fail)
              go_wp2
              go_quiet (fail)
              go_wp2
              go_roundw
              case rel => exact ⟨q + 1, e1, e2 + 1, by omega, by go_num, rfl, by go_num, by omega, by omega, N1.out hxa, fun _ _ _ => Nat.succ_pos _, below_drewN hBq _⟩
              case measure => simp [intOf]; omega
            · go_wp2
              go_quiet (fail)
              go_wp2
              go_quiet (fail)
              go_wp2
              go_roundw
              case rel => exact ⟨q + 1, e1 + 1, e2, by omega, by go_num, by go_num, rfl, by omega, by omega, fun _ _ _ => Nat.succ_pos _, N2.out hxb, below_drewN hBq _⟩
              case measure => simp [intOf]; omega
            · go_wp2
              go_quiet (fail)
              go_wp2
              go_quiet (fail)
              go_wp2
              go_roundw
              case rel => exact ⟨q + 1, e1 + 1, e2 + 1, by omega, by go_num, by go_num, by go_num, by omega, by omega, fun _ _ _ => Nat.succ_pos _, fun _ _ _ => Nat.succ_pos _, below_drewN hBq _⟩
              case measure => simp [intOf]; omega
          · have hq' : q = vs.length := by omega
            have h1p : 0 < e1 := by
              obtain ⟨j, hj⟩ := List.mem_iff_getElem?.1 HGO.out.a
              exact H1.out j (by have := (List.getElem?_eq_some_iff.1 hj).1; omega) hj
            have h2p : 0 < e2 := by
              obtain ⟨j, hj⟩ := List.mem_iff_getElem?.1 HGO.out.b
              exact H2.out j (by have := (List.getElem?_eq_some_iff.1 hj).1; omega) hj
            have q1 : ((e1 : Int) == 0) = false := by simp; omega
            have q2 : ((e2 : Int) == 0) = false := by simp; omega
            have hBq0 : Below w.heap.size w wr := hBW.trans (hBq.mono (by omega))
            have hAq : TreeAt wr bt 0 gT capT ps := hA.below hBq0 hA.lt_b (hA.lt_g hT.1)
            have hmay : ∀ W', TreeAt W' bt 0 gT capT ps → Calls Tryz.prog 65 #[.pointer (some ⟨bt, 0, none⟩), gu.a.val, gu.b.val] W' fun e w' => e = .returned (.bool false) ∧ Below W'.heap.size W' w' := fun W' h' => by
              have h1 := kMay_at bt gT capT ps hT gu.a gu.b (HGO.out.av.trans HGO.out.bv.symm) (hO _ HGO.out.a) (hO _ HGO.out.b) W' h'
              rw [decide_eq_false HGO.out.k] at h1
              exact h1
            have HM : Hid _ := hmay
            clear hmay hq'
            go_wp2_with fail
            refine (HM.out _ hAq).mono ?_
            rintro e w5 ⟨rfl, hB5⟩
            have hnl : n < wr.heap.size := by have := hBq.size; omega
            have hB6 : Below w.heap.size w w5 := hBq0.trans (hB5.mono hBq0.size)
            have hg0 : w5.cell? ⟨n, 0, none⟩ = some (I64 gu.v) := (hB5.cell (p := ⟨n, 0, none⟩) hnl).trans ((hBq.cell (p := ⟨n, 0, none⟩) (by simp)).trans d0)
            have hv0 := HGO.out.v0
            have hv1 := HGO.out.v1
            obtain ⟨y, hy⟩ : ∃ y, wAt ws gu.v = y := ⟨_, rfl⟩
            have hyb := hW.wAt (v := gu.v) (by omega)
            rw [hy] at hyb
            have hgw : w5.cell? ⟨gW, gu.v.toNat, none⟩ = some (I64 y) := by
              have h1 := HCW.out gu.v.toNat (by omega)
              rw [← hy]
              exact (hB6.cell (p := ⟨gW, gu.v.toNat, none⟩) (World.block_lt_of_cell? w _ h1)).trans h1
            have HY : Hid (wSum ws ((G.take (k + 1)).map (fun g => g.v)) = T + y) := by
              show _ = _
              rw [List.map_take, wSum_take ws (G.map (fun g => g.v)) k gu.v (by simp [HGU.out]), ← List.map_take, HTT.out, hy]
            clear hy g2 g3 g4 g5 g6 g7 hAq HM
            go_wp2
            go_roundw
            case rel => exact ⟨k + 1, by omega, by go_num, by rw [HY.out], by rw [HY.out]; omega, by rw [HY.out]; omega, hB6⟩
            case measure => simp [intOf]; omega
      · have hkp : (k : Int) > 0 := by omega
        obtain ⟨gp, hgp⟩ : ∃ gp, G[k - 1]? = some gp := ⟨_, List.getElem?_eq_getElem (by omega)⟩
        have hpc : W.cell? ⟨gG, (k - 1) * 8, none⟩ = some (I64 gp.v) := (hBW.cell (p := ⟨gG, (k - 1) * 8, none⟩) hgl).trans (hG (k - 1) gp hgp 0 _ rfl)
        have f4 : ¬ gu.v ≤ gp.v := by
          have h1 := List.pairwise_iff_getElem.1 HU.out (k - 1) k (by omega) hlt (by omega)
          have h2 := (List.getElem?_eq_some_iff.1 hgp).2
          have h3 := (List.getElem?_eq_some_iff.1 HGU.out).2
          rw [h2, h3] at h1
          omega
        have hks : (k : Int) - 1 = ((k - 1 : Nat) : Int) := by omega
        clear hgp
        refine wp_region_held_drew (S := fun w' => w'.cell? ⟨n, 0, none⟩ = some (I64 gu.v) ∧ w'.cell? ⟨n, 2, none⟩ = some (I64 gu.a.v) ∧ w'.cell? ⟨n, 5, none⟩ = some (I64 gu.b.v) ∧ w'.cell? ⟨gG, (k - 1) * 8, none⟩ = some (I64 gp.v)) (by kernel_rfl) ⟨d0, d2, d5, hpc⟩ (fun hHeld => ?_)
        have hkm : k - 1 < G.length := by omega
        have hkn : 0 < k := by omega
        have hkw : IntKind.i64.wrap ((k - 1 : Nat) : Int) = ((k - 1 : Nat) : Int) := Go.IntWalk.i64_in _ (by omega)
        refine takeH (i := 0) (v := ?vv42) rfl (by kernel_rfl) (by kernel_rfl) (by kernel_rfl) (fun _ _ _ h => h) (Or.inl ⟨by rfl, ?hy42⟩) (by assumption) ?rest42
        case hy42 => (intro w hSw; (try dsimp only at hSw); go_simp; try with_reducible rfl)
        try simp only [Act.put, List.setIfInBounds_toArray, List.set_cons_zero, List.set_cons_succ]
        refine takeH (i := 1) (v := ?vv43) rfl (by kernel_rfl) (by kernel_rfl) (by kernel_rfl) (fun _ _ _ h => h) (Or.inl ⟨by rfl, ?hy43⟩) (by assumption) ?rest43
        case hy43 => (intro w hSw; (try dsimp only at hSw); go_simp; try with_reducible rfl)
        try simp only [Act.put, List.setIfInBounds_toArray, List.set_cons_zero, List.set_cons_succ]
        refine takeH (i := 2) (v := .bool false) rfl (by kernel_rfl) (by kernel_rfl) (by kernel_rfl) (fun _ _ _ h => h) (Or.inl ⟨by rfl, ?hy44⟩) (by assumption) ?rest44
        case hy44 => (intro w hSw; (try dsimp only at hSw); go_simp; try simp [*]; try omega)
        try simp only [Act.put, List.setIfInBounds_toArray, List.set_cons_zero, List.set_cons_succ]
        refine takeH (i := 3) (v := ?vv45) rfl (by kernel_rfl) (by kernel_rfl) (by kernel_rfl) (fun _ _ _ h => h) (Or.inl ⟨by rfl, ?hy45⟩) (by assumption) ?rest45
        case hy45 => (intro w hSw; (try dsimp only at hSw); go_simp; try with_reducible rfl)
        try simp only [Act.put, List.setIfInBounds_toArray, List.set_cons_zero, List.set_cons_succ]
        refine takeH (i := 4) (v := ?vv46) rfl (by kernel_rfl) (by kernel_rfl) (by kernel_rfl) (fun _ _ _ h => h) (Or.inl ⟨by rfl, ?hy46⟩) (by assumption) ?rest46
        case hy46 => (intro w hSw; (try dsimp only at hSw); go_simp; try with_reducible rfl)
        try simp only [Act.put, List.setIfInBounds_toArray, List.set_cons_zero, List.set_cons_succ]
        refine takeH (i := 5) (v := ?vv47) rfl (by kernel_rfl) (by kernel_rfl) (by kernel_rfl) (fun _ _ _ h => h) (Or.inl ⟨by rfl, ?hy47⟩) (by assumption) ?rest47
        case hy47 => (intro w hSw; (try dsimp only at hSw); go_simp; try with_reducible rfl)
        try simp only [Act.put, List.setIfInBounds_toArray, List.set_cons_zero, List.set_cons_succ]
        refine takeH (i := 6) (v := ?vv48) rfl (by kernel_rfl) (by kernel_rfl) (by kernel_rfl) (fun _ _ _ h => h) (Or.inl ⟨by rfl, ?hy48⟩) (by assumption) ?rest48
        case hy48 => (intro w hSw; (try dsimp only at hSw); go_simp; try with_reducible rfl)
        try simp only [Act.put, List.setIfInBounds_toArray, List.set_cons_zero, List.set_cons_succ]
        refine takeH (i := 7) (v := ?vv49) rfl (by kernel_rfl) (by kernel_rfl) (by kernel_rfl) (fun _ _ _ h => h) (Or.inl ⟨by rfl, ?hy49⟩) (by assumption) ?rest49
        case hy49 => (intro w hSw; (try dsimp only at hSw); go_simp; try with_reducible rfl)
        try simp only [Act.put, List.setIfInBounds_toArray, List.set_cons_zero, List.set_cons_succ]
        refine takeH (i := 8) (v := .bool false) rfl (by kernel_rfl) (by kernel_rfl) (by kernel_rfl) (fun _ _ _ h => h) (Or.inl ⟨by rfl, ?hy50⟩) (by assumption) ?rest50
        case hy50 => (intro w hSw; (try dsimp only at hSw); go_simp; try simp [*]; try omega)
        try simp only [Act.put, List.setIfInBounds_toArray, List.set_cons_zero, List.set_cons_succ]
        refine takeH (i := 9) (v := ?vv51) rfl (by kernel_rfl) (by kernel_rfl) (by kernel_rfl) (fun _ _ _ h => h) (Or.inl ⟨by rfl, ?hy51⟩) (by assumption) ?rest51
        case hy51 => (intro w hSw; (try dsimp only at hSw); go_simp; try with_reducible rfl)
        try simp only [Act.put, List.setIfInBounds_toArray, List.set_cons_zero, List.set_cons_succ]
        refine takeH (i := 10) (v := ?vv52) rfl (by kernel_rfl) (by kernel_rfl) (by kernel_rfl) (fun _ _ _ h => h) (Or.inl ⟨by rfl, ?hy52⟩) (by assumption) ?rest52
        case hy52 => (intro w hSw; (try dsimp only at hSw); go_simp; try with_reducible rfl)
        try simp only [Act.put, List.setIfInBounds_toArray, List.set_cons_zero, List.set_cons_succ]
        refine takeH (i := 11) (v := ?vv53) rfl (by kernel_rfl) (by kernel_rfl) (by kernel_rfl) (fun _ _ _ h => h) (Or.inl ⟨by rfl, ?hy53⟩) (by assumption) ?rest53
        case hy53 => (intro w hSw; (try dsimp only at hSw); go_simp; try with_reducible rfl)
        try simp only [Act.put, List.setIfInBounds_toArray, List.set_cons_zero, List.set_cons_succ]
        refine takeH (i := 12) (v := .bool true) rfl (by kernel_rfl) (by kernel_rfl) (by kernel_rfl) (fun _ _ _ h => h) (Or.inl ⟨by rfl, ?hy54⟩) (by assumption) ?rest54
        case hy54 => (intro w hSw; (try dsimp only at hSw); go_simp; try simp [*]; try omega)
        try simp only [Act.put, List.setIfInBounds_toArray, List.set_cons_zero, List.set_cons_succ]
        refine takeH (i := 13) (v := ?vv55) rfl (by kernel_rfl) (by kernel_rfl) (by kernel_rfl) (fun _ _ _ h => h) (Or.inl ⟨by rfl, ?hy55⟩) (by assumption) ?rest55
        case hy55 => (intro w hSw; (try dsimp only at hSw); go_simp; try with_reducible rfl)
        try simp only [Act.put, List.setIfInBounds_toArray, List.set_cons_zero, List.set_cons_succ]
        refine takeH (i := 14) (v := ?vv56) rfl (by kernel_rfl) (by kernel_rfl) (by kernel_rfl) (fun _ _ _ h => h) (Or.inl ⟨by rfl, ?hy56⟩) (by assumption) ?rest56
        case hy56 => (intro w hSw; (try dsimp only at hSw); go_simp; try with_reducible rfl)
        try simp only [Act.put, List.setIfInBounds_toArray, List.set_cons_zero, List.set_cons_succ]
        refine takeH (i := 15) (v := ?vv57) rfl (by kernel_rfl) (by kernel_rfl) (by kernel_rfl) (fun _ _ _ h => h) (Or.inl ⟨by rfl, ?hy57⟩) (by assumption) ?rest57
        case hy57 => (intro w hSw; (try dsimp only at hSw); go_simp; try with_reducible rfl)
        try simp only [Act.put, List.setIfInBounds_toArray, List.set_cons_zero, List.set_cons_succ]
        refine takeH (i := 16) (v := ?vv58) rfl (by kernel_rfl) (by kernel_rfl) (by kernel_rfl) (fun _ _ _ h => h) (Or.inl ⟨by rfl, ?hy58⟩) (by assumption) ?rest58
        case hy58 => (intro w hSw; (try dsimp only at hSw); go_simp; try with_reducible rfl)
        try simp only [Act.put, List.setIfInBounds_toArray, List.set_cons_zero, List.set_cons_succ]
        refine takeH (i := 17) (v := ?vv59) rfl (by kernel_rfl) (by kernel_rfl) (by kernel_rfl) (fun _ _ _ h => h) (Or.inl ⟨by rfl, ?hy59⟩) (by assumption) ?rest59
        case hy59 => (intro w hSw; (try dsimp only at hSw); go_simp; try with_reducible rfl)
        try simp only [Act.put, List.setIfInBounds_toArray, List.set_cons_zero, List.set_cons_succ]
        refine takeH (i := 18) (v := .int .i64 ((k - 1 : Nat) : Int)) rfl (by kernel_rfl) (by kernel_rfl) (by kernel_rfl) (fun _ _ _ h => h) (Or.inl ⟨by rfl, ?hy60⟩) (by assumption) ?rest60
        case hy60 => (intro w hSw; (try dsimp only at hSw); go_simp; try simp [*]; try omega)
        try simp only [Act.put, List.setIfInBounds_toArray, List.set_cons_zero, List.set_cons_succ]
        refine takeH (i := 19) (v := .pointer (some ⟨gG, (k - 1) * 8, none⟩)) rfl (by kernel_rfl) (by kernel_rfl) (by kernel_rfl) (fun _ _ _ h => h) (Or.inl ⟨by rfl, ?hy61⟩) (by assumption) ?rest61
        case hy61 => (intro w hSw; (try dsimp only at hSw); go_simp; try simp [*]; try omega)
        try simp only [Act.put, List.setIfInBounds_toArray, List.set_cons_zero, List.set_cons_succ]
        refine takeH (i := 20) (v := ?vv62) rfl (by kernel_rfl) (by kernel_rfl) (by kernel_rfl) (fun _ _ _ h => h) (Or.inl ⟨by rfl, ?hy62⟩) (by assumption) ?rest62
        case hy62 => (intro w hSw; (try dsimp only at hSw); go_simp; try with_reducible rfl)
        try simp only [Act.put, List.setIfInBounds_toArray, List.set_cons_zero, List.set_cons_succ]
        refine takeH (i := 21) (v := ?vv63) rfl (by kernel_rfl) (by kernel_rfl) (by kernel_rfl) (fun _ _ _ h => h) (Or.inl ⟨by rfl, ?hy63⟩) (by assumption) ?rest63
        case hy63 => (intro w hSw; (try dsimp only at hSw); go_simp; try with_reducible rfl)
        try simp only [Act.put, List.setIfInBounds_toArray, List.set_cons_zero, List.set_cons_succ]
        refine takeH (i := 22) (v := .bool false) rfl (by kernel_rfl) (by kernel_rfl) (by kernel_rfl) (fun _ _ _ h => h) (Or.inl ⟨by rfl, ?hy64⟩) (by assumption) ?rest64
        case hy64 => (intro w hSw; (try dsimp only at hSw); go_simp; try simp [*]; try omega)
        try simp only [Act.put, List.setIfInBounds_toArray, List.set_cons_zero, List.set_cons_succ]
        refine takeH (i := 23) (v := ?vv65) rfl (by kernel_rfl) (by kernel_rfl) (by kernel_rfl) (fun _ _ _ h => h) (Or.inl ⟨by rfl, ?hy65⟩) (by assumption) ?rest65
        case hy65 => (intro w hSw; (try dsimp only at hSw); go_simp; try with_reducible rfl)
        try simp only [Act.put, List.setIfInBounds_toArray, List.set_cons_zero, List.set_cons_succ]
        refine takeH (i := 24) (v := ?vv66) rfl (by kernel_rfl) (by kernel_rfl) (by kernel_rfl) (fun _ _ _ h => h) (Or.inl ⟨by rfl, ?hy66⟩) (by assumption) ?rest66
        case hy66 => (intro w hSw; (try dsimp only at hSw); go_simp; try with_reducible rfl)
        try simp only [Act.put, List.setIfInBounds_toArray, List.set_cons_zero, List.set_cons_succ]
        refine takeH (i := 25) (v := ?vv67) rfl (by kernel_rfl) (by kernel_rfl) (by kernel_rfl) (fun _ _ _ h => h) (Or.inl ⟨by rfl, ?hy67⟩) (by assumption) ?rest67
        case hy67 => (intro w hSw; (try dsimp only at hSw); go_simp; try with_reducible rfl)
        try simp only [Act.put, List.setIfInBounds_toArray, List.set_cons_zero, List.set_cons_succ]
        refine takeH (i := 26) (v := ?vv68) rfl (by kernel_rfl) (by kernel_rfl) (by kernel_rfl) (fun _ _ _ h => h) (Or.inl ⟨by rfl, ?hy68⟩) (by assumption) ?rest68
        case hy68 => (intro w hSw; (try dsimp only at hSw); go_simp; try with_reducible rfl)
        try simp only [Act.put, List.setIfInBounds_toArray, List.set_cons_zero, List.set_cons_succ]
        refine takeH (i := 27) (v := ?vv69) rfl (by kernel_rfl) (by kernel_rfl) (by kernel_rfl) (fun _ _ _ h => h) (Or.inl ⟨by rfl, ?hy69⟩) (by assumption) ?rest69
        case hy69 => (intro w hSw; (try dsimp only at hSw); go_simp; try with_reducible rfl)
        try simp only [Act.put, List.setIfInBounds_toArray, List.set_cons_zero, List.set_cons_succ]
        refine takeH (i := 28) (v := ?vv70) rfl (by kernel_rfl) (by kernel_rfl) (by kernel_rfl) (fun _ _ _ h => h) (Or.inl ⟨by rfl, ?hy70⟩) (by assumption) ?rest70
        case hy70 => (intro w hSw; (try dsimp only at hSw); go_simp; try with_reducible rfl)
        try simp only [Act.put, List.setIfInBounds_toArray, List.set_cons_zero, List.set_cons_succ]
        refine takeH (i := 29) (v := ?vv71) rfl (by kernel_rfl) (by kernel_rfl) (by kernel_rfl) (fun _ _ _ h => h) (Or.inl ⟨by rfl, ?hy71⟩) (by assumption) ?rest71
        case hy71 => (intro w hSw; (try dsimp only at hSw); go_simp; try with_reducible rfl)
        try simp only [Act.put, List.setIfInBounds_toArray, List.set_cons_zero, List.set_cons_succ]
        refine takeH (i := 30) (v := ?vv72) rfl (by kernel_rfl) (by kernel_rfl) (by kernel_rfl) (fun _ _ _ h => h) (Or.inl ⟨by rfl, ?hy72⟩) (by assumption) ?rest72
        case hy72 => (intro w hSw; (try dsimp only at hSw); go_simp; try with_reducible rfl)
        try simp only [Act.put, List.setIfInBounds_toArray, List.set_cons_zero, List.set_cons_succ]
        refine takeH (i := 31) (v := .bool false) rfl (by kernel_rfl) (by kernel_rfl) (by kernel_rfl) (fun _ _ _ h => h) (Or.inl ⟨by rfl, ?hy73⟩) (by assumption) ?rest73
        case hy73 => (intro w hSw; (try dsimp only at hSw); go_simp; try simp [*]; try omega)
        try simp only [Act.put, List.setIfInBounds_toArray, List.set_cons_zero, List.set_cons_succ]
        refine takeH (i := 32) (v := ?vv74) rfl (by kernel_rfl) (by kernel_rfl) (by kernel_rfl) (fun _ _ _ h => h) (Or.inl ⟨by rfl, ?hy74⟩) (by assumption) ?rest74
        case hy74 => (intro w hSw; (try dsimp only at hSw); go_simp; try with_reducible rfl)
        try simp only [Act.put, List.setIfInBounds_toArray, List.set_cons_zero, List.set_cons_succ]
        refine takeH (i := 33) (v := ?vv75) rfl (by kernel_rfl) (by kernel_rfl) (by kernel_rfl) (fun _ _ _ h => h) (Or.inl ⟨by rfl, ?hy75⟩) (by assumption) ?rest75
        case hy75 => (intro w hSw; (try dsimp only at hSw); go_simp; try with_reducible rfl)
        try simp only [Act.put, List.setIfInBounds_toArray, List.set_cons_zero, List.set_cons_succ]
        refine takeH (i := 34) (v := ?vv76) rfl (by kernel_rfl) (by kernel_rfl) (by kernel_rfl) (fun _ _ _ h => h) (Or.inl ⟨by rfl, ?hy76⟩) (by assumption) ?rest76
        case hy76 => (intro w hSw; (try dsimp only at hSw); go_simp; try with_reducible rfl)
        try simp only [Act.put, List.setIfInBounds_toArray, List.set_cons_zero, List.set_cons_succ]
        refine takeH (i := 35) (v := ?vv77) rfl (by kernel_rfl) (by kernel_rfl) (by kernel_rfl) (fun _ _ _ h => h) (Or.inl ⟨by rfl, ?hy77⟩) (by assumption) ?rest77
        case hy77 => (intro w hSw; (try dsimp only at hSw); go_simp; try with_reducible rfl)
        try simp only [Act.put, List.setIfInBounds_toArray, List.set_cons_zero, List.set_cons_succ]
        refine takeH (i := 36) (v := ?vv78) rfl (by kernel_rfl) (by kernel_rfl) (by kernel_rfl) (fun _ _ _ h => h) (Or.inl ⟨by rfl, ?hy78⟩) (by assumption) ?rest78
        case hy78 => (intro w hSw; (try dsimp only at hSw); go_simp; try with_reducible rfl)
        try simp only [Act.put, List.setIfInBounds_toArray, List.set_cons_zero, List.set_cons_succ]
        refine takeH (i := 37) (v := ?vv79) rfl (by kernel_rfl) (by kernel_rfl) (by kernel_rfl) (fun _ _ _ h => h) (Or.inl ⟨by rfl, ?hy79⟩) (by assumption) ?rest79
        case hy79 => (intro w hSw; (try dsimp only at hSw); go_simp; try with_reducible rfl)
        try simp only [Act.put, List.setIfInBounds_toArray, List.set_cons_zero, List.set_cons_succ]
        refine takeH (i := 38) (v := ?vv80) rfl (by kernel_rfl) (by kernel_rfl) (by kernel_rfl) (fun _ _ _ h => h) (Or.inl ⟨by rfl, ?hy80⟩) (by assumption) ?rest80
        case hy80 => (intro w hSw; (try dsimp only at hSw); go_simp; try with_reducible rfl)
        try simp only [Act.put, List.setIfInBounds_toArray, List.set_cons_zero, List.set_cons_succ]
        refine takeH (i := 39) (v := .bool false) rfl (by kernel_rfl) (by kernel_rfl) (by kernel_rfl) (fun _ _ _ h => h) (Or.inl ⟨by rfl, ?hy81⟩) (by assumption) ?rest81
        case hy81 => (intro w hSw; (try dsimp only at hSw); go_simp; try simp [*]; try omega)
        try simp only [Act.put, List.setIfInBounds_toArray, List.set_cons_zero, List.set_cons_succ]
        refine takeH (i := 40) (v := ?vv82) rfl (by kernel_rfl) (by kernel_rfl) (by kernel_rfl) (fun _ _ _ h => h) (Or.inl ⟨by rfl, ?hy82⟩) (by assumption) ?rest82
        case hy82 => (intro w hSw; (try dsimp only at hSw); go_simp; try with_reducible rfl)
        try simp only [Act.put, List.setIfInBounds_toArray, List.set_cons_zero, List.set_cons_succ]
        clear hHeld
        refine wpAnyH_done (by kernel_rfl) ?_ _
        clear hk0 hkp hks hkm hkn hkw hpc f4
        go_wp2_with fail
        go_loopw [13, 14, 15] (fun one other kk wq => ∃ (q c1 c2 : Nat), q ≤ vs.length ∧ kk = .int .i64 q ∧ one = .int .i64 c1 ∧ other = .int .i64 c2 ∧ c1 ≤ q ∧ c2 ≤ q ∧ Hid (∀ j, j < q → vs[j]? = some gu.a → 0 < c1) ∧ Hid (∀ j, j < q → vs[j]? = some gu.b → 0 < c2) ∧ Below (n + 1) W wq) (fun _ _ kk _ => vs.length - (intOf kk).toNat)
        case atStart => exact ⟨0, 0, 0, by omega, rfl, rfl, rfl, by omega, by omega, fun j h => by omega, fun j h => by omega, (Below.refl _ W).drew⟩
        case round =>
          obtain ⟨q, e1, e2, hq, rfl, rfl, rfl, hq1, hq2, H1, H2, hBq⟩ := hrel
          have g2 : wr.cell? ⟨n, 2, none⟩ = some (I64 gu.a.v) := (hBq.cell (p := ⟨n, 2, none⟩) (by simp)).trans d2
          have g3 : wr.cell? ⟨n, 3, none⟩ = some (I64 gu.a.s) := (hBq.cell (p := ⟨n, 3, none⟩) (by simp)).trans d3
          have g4 : wr.cell? ⟨n, 4, none⟩ = some (I64 gu.a.t) := (hBq.cell (p := ⟨n, 4, none⟩) (by simp)).trans d4
          have g5 : wr.cell? ⟨n, 5, none⟩ = some (I64 gu.b.v) := (hBq.cell (p := ⟨n, 5, none⟩) (by simp)).trans d5
          have g6 : wr.cell? ⟨n, 6, none⟩ = some (I64 gu.b.s) := (hBq.cell (p := ⟨n, 6, none⟩) (by simp)).trans d6
          have g7 : wr.cell? ⟨n, 7, none⟩ = some (I64 gu.b.t) := (hBq.cell (p := ⟨n, 7, none⟩) (by simp)).trans d7
          by_cases hqlt : q < vs.length
          · have hqlt' : (q : Int) < (vs.length : Int) := by omega
            rcases hV with rfl | ⟨gV, rfl, hV⟩
            · simp at hqlt
            obtain ⟨x, hx⟩ : ∃ x, vs[q]? = some x := ⟨_, List.getElem?_eq_getElem hqlt⟩
            have hvl2 := VCells.lt hV (by omega)
            obtain ⟨v0, v1, v2⟩ := (hV.below hBW hvl2).below hBq (by omega) q x hx
            have HX : Hid (vs[q]? = some x) := hx
            clear hx
            have heq1 := vote_eql x gu.a
            have heq2 := vote_eql x gu.b
            have n1 : x.is gu.a = false → ∀ j, j < q + 1 → vs[j]? = some gu.a → 0 < e1 := fun hf j hj hg => by
              by_cases e : j = q
              · subst e
                rw [HX.out] at hg
                injection hg with hg
                rw [Vt.is_iff.2 hg] at hf
                cases hf
              · exact H1.out j (by omega) hg
            have n2 : x.is gu.b = false → ∀ j, j < q + 1 → vs[j]? = some gu.b → 0 < e2 := fun hf j hj hg => by
              by_cases e : j = q
              · subst e
                rw [HX.out] at hg
                injection hg with hg
                rw [Vt.is_iff.2 hg] at hf
                cases hf
              · exact H2.out j (by omega) hg
            have N1 : Hid _ := n1
            have N2 : Hid _ := n2
            clear n1 n2
            cases hxa : x.is gu.a <;> cases hxb : x.is gu.b
            · go_wp2
              go_quiet (fail)
              go_wp2
              go_quiet (fail)
              go_wp2
              go_roundw
              case rel => exact ⟨q + 1, e1, e2, by omega, by go_num, rfl, rfl, by omega, by omega, N1.out hxa, N2.out hxb, below_drewN hBq _⟩
              case measure => simp [intOf]; omega
            · go_wp2
              go_quiet (fail)
              go_wp2
              go_quiet (fail)
              go_wp2
              go_roundw
              case rel => exact ⟨q + 1, e1, e2 + 1, by omega, by go_num, rfl, by go_num, by omega, by omega, N1.out hxa, fun _ _ _ => Nat.succ_pos _, below_drewN hBq _⟩
              case measure => simp [intOf]; omega
            · go_wp2
              go_quiet (fail)
              go_wp2
              go_quiet (fail)
              go_wp2
              go_roundw
              case rel => exact ⟨q + 1, e1 + 1, e2, by omega, by go_num, by go_num, rfl, by omega, by omega, fun _ _ _ => Nat.succ_pos _, N2.out hxb, below_drewN hBq _⟩
              case measure => simp [intOf]; omega
            · go_wp2
              go_quiet (fail)
              go_wp2
              go_quiet (fail)
              go_wp2
              go_roundw
              case rel => exact ⟨q + 1, e1 + 1, e2 + 1, by omega, by go_num, by go_num, by go_num, by omega, by omega, fun _ _ _ => Nat.succ_pos _, fun _ _ _ => Nat.succ_pos _, below_drewN hBq _⟩
              case measure => simp [intOf]; omega
          · have hq' : q = vs.length := by omega
            have h1p : 0 < e1 := by
              obtain ⟨j, hj⟩ := List.mem_iff_getElem?.1 HGO.out.a
              exact H1.out j (by have := (List.getElem?_eq_some_iff.1 hj).1; omega) hj
            have h2p : 0 < e2 := by
              obtain ⟨j, hj⟩ := List.mem_iff_getElem?.1 HGO.out.b
              exact H2.out j (by have := (List.getElem?_eq_some_iff.1 hj).1; omega) hj
            have q1 : ((e1 : Int) == 0) = false := by simp; omega
            have q2 : ((e2 : Int) == 0) = false := by simp; omega
            have hBq0 : Below w.heap.size w wr := hBW.trans (hBq.mono (by omega))
            have hAq : TreeAt wr bt 0 gT capT ps := hA.below hBq0 hA.lt_b (hA.lt_g hT.1)
            have hmay : ∀ W', TreeAt W' bt 0 gT capT ps → Calls Tryz.prog 65 #[.pointer (some ⟨bt, 0, none⟩), gu.a.val, gu.b.val] W' fun e w' => e = .returned (.bool false) ∧ Below W'.heap.size W' w' := fun W' h' => by
              have h1 := kMay_at bt gT capT ps hT gu.a gu.b (HGO.out.av.trans HGO.out.bv.symm) (hO _ HGO.out.a) (hO _ HGO.out.b) W' h'
              rw [decide_eq_false HGO.out.k] at h1
              exact h1
            have HM : Hid _ := hmay
            clear hmay hq'
            go_wp2_with fail
            refine (HM.out _ hAq).mono ?_
            rintro e w5 ⟨rfl, hB5⟩
            have hnl : n < wr.heap.size := by have := hBq.size; omega
            have hB6 : Below w.heap.size w w5 := hBq0.trans (hB5.mono hBq0.size)
            have hg0 : w5.cell? ⟨n, 0, none⟩ = some (I64 gu.v) := (hB5.cell (p := ⟨n, 0, none⟩) hnl).trans ((hBq.cell (p := ⟨n, 0, none⟩) (by simp)).trans d0)
            have hv0 := HGO.out.v0
            have hv1 := HGO.out.v1
            obtain ⟨y, hy⟩ : ∃ y, wAt ws gu.v = y := ⟨_, rfl⟩
            have hyb := hW.wAt (v := gu.v) (by omega)
            rw [hy] at hyb
            have hgw : w5.cell? ⟨gW, gu.v.toNat, none⟩ = some (I64 y) := by
              have h1 := HCW.out gu.v.toNat (by omega)
              rw [← hy]
              exact (hB6.cell (p := ⟨gW, gu.v.toNat, none⟩) (World.block_lt_of_cell? w _ h1)).trans h1
            have HY : Hid (wSum ws ((G.take (k + 1)).map (fun g => g.v)) = T + y) := by
              show _ = _
              rw [List.map_take, wSum_take ws (G.map (fun g => g.v)) k gu.v (by simp [HGU.out]), ← List.map_take, HTT.out, hy]
            clear hy g2 g3 g4 g5 g6 g7 hAq HM
            go_wp2
            go_roundw
            case rel => exact ⟨k + 1, by omega, by go_num, by rw [HY.out], by rw [HY.out]; omega, by rw [HY.out]; omega, hB6⟩
            case measure => simp [intOf]; omega
    · have hkk : k = G.length := by omega
      have HS : Hid (wSum ws ((G.take k).map (fun g => g.v)) = wSum ws (G.map (fun g => g.v))) := by show _ = _; rw [hkk, List.take_length]
      obtain ⟨T, hTT⟩ : ∃ T, wSum ws ((G.take k).map (fun g => g.v)) = T := ⟨_, rfl⟩
      rw [hTT] at hs0 hs1 ⊢
      have HTT : Hid (wSum ws ((G.take k).map (fun g => g.v)) = T) := hTT
      clear hTT hkk
      go_wp2
      go_ret2
      exact ⟨by rw [← HS.out, HTT.out]; rfl, hB⟩
end Go.Proofs.YtgebcnnenhgkcaaGreat
