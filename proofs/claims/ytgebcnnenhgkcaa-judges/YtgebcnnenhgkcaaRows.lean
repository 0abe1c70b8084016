/-
  No cell of these rows narrows 'for every input' (looked for: loops, veiled, ifaces, maps, wideKeys, modest, calm, conditions, laid).
  DERIVED. THE GIVEN ROWS OF THIS SEAT. 4 by the template 'for every input the law returns true; each argument reads behind the call as it read before'; 0 by the template 'total and deterministic' (their statements: YtgebcnnenhgkcaaTotals.lean).
  GIVEN WITH THE SEED: the statements are not yours to turn. If you find one false, say at which input.
  Laid BY PROGRAM, IN A SANDBOX (cutbox-rows.mjs): the forced cells as the released guide's own fill.sh prints them over the translation c449e47c455de73e… (all of the seat's roots in one cut). By AI agents, Wed Nov 11 2026. No macro, syntax, notation, axiom, sorry.
-/
import Derived.Test.YtgebcnnenhgkcaaChecked
import GoSem.Claim
import GoSem.ClaimJoined
import GoSem.ClaimMapViews
import Derived.JoinedTies
import Derived.KernelRfl
namespace Go.Proofs.Ytgebcnnenhgkcaa
/- THE CELL 'sum', in the pinned program and in every row, IS THE sha256 OF THE DUMP (.gsa) THAT YtgebcnnenhgkcaaProg.lean LOADS. Nothing in Lean hashes anything: it is a label: what it is worth is what the hold of that sum in a sandbox is worth. -/
noncomputable def Try.pinned : Pinned := { name := "ytgebcnnenhgkcaa", sum := "c449e47c455de73e247b06c3ffdb59c6d5c7e8be595e157111a51a20f1cc2d8b", checked := Try.checked }
namespace Rows
def none {H : Type} : Left H := { results := [], args := [] }

/-- 'assizelaw.Judges': WHATEVER THE INPUT: true; the input reads as it did. -/
def judgesSpec : ChangeSpec := { name := "judges", fn := fun _ => fun
  | [d1, d2, d3, d4] => { results := [.lit (.bool true)], args := [d1, d2, d3, d4] }
  | _ => none }
def judgesRow : OpenClaim := { program := "ytgebcnnenhgkcaa", sum := "c449e47c455de73e247b06c3ffdb59c6d5c7e8be595e157111a51a20f1cc2d8b", func := "assize/assizelaw.Judges", spec := "judges", unfollowed := true, recurses := true, apart := false }
def JudgesSaid : Prop := judgesRow.holds Try.pinned (OpenSpec.ofChange judgesSpec)

/-- ITS FALSE NEIGHBOUR: 'it returns false'. Refute it at one input. -/
def judgesWrong : ChangeSpec := { name := "judges", fn := fun _ => fun
  | [d1, d2, d3, d4] => { results := [.lit (.bool false)], args := [d1, d2, d3, d4] }
  | _ => none }
def JudgesWrongFalsely : Prop := judgesRow.holds Try.pinned (OpenSpec.ofChange judgesWrong)

/-- 'assizelaw.Unmade': WHATEVER THE INPUT: true; the input reads as it did. -/
def unmadeSpec : ChangeSpec := { name := "unmade", fn := fun _ => fun
  | [] => { results := [.lit (.bool true)], args := [] }
  | _ => none }
def unmadeRow : OpenClaim := { program := "ytgebcnnenhgkcaa", sum := "c449e47c455de73e247b06c3ffdb59c6d5c7e8be595e157111a51a20f1cc2d8b", func := "assize/assizelaw.Unmade", spec := "unmade", inPlace := ["(*internal/sync.Mutex).Lock", "internal/race.Disable", "sync/atomic.CompareAndSwapInt32", "internal/race.Enable", "internal/race.Acquire", "(*internal/sync.Mutex).lockSlow", "internal/sync.runtime_canSpin", "internal/sync.runtime_doSpin", "internal/sync.throw", "internal/sync.runtime_nanotime", "internal/sync.runtime_SemacquireMutex", "sync/atomic.AddInt32", "(*internal/sync.Mutex).Unlock", "internal/race.ReleaseMerge", "(*internal/sync.Mutex).unlockSlow", "internal/sync.fatal", "internal/sync.runtime_Semrelease"], unfollowed := true, recurses := true, apart := false }
def UnmadeSaid : Prop := unmadeRow.holds Try.pinned (OpenSpec.ofChange unmadeSpec)

/-- ITS FALSE NEIGHBOUR: 'it returns false'. Refute it at one input. -/
def unmadeWrong : ChangeSpec := { name := "unmade", fn := fun _ => fun
  | [] => { results := [.lit (.bool false)], args := [] }
  | _ => none }
def UnmadeWrongFalsely : Prop := unmadeRow.holds Try.pinned (OpenSpec.ofChange unmadeWrong)

/-- 'assizekeep.Onward': WHATEVER THE INPUT: true; the input reads as it did. -/
def onwardSpec : ChangeSpec := { name := "onward", fn := fun _ => fun
  | [d1, d2] => { results := [.lit (.bool true)], args := [d1, d2] }
  | _ => none }
def onwardRow : OpenClaim := { program := "ytgebcnnenhgkcaa", sum := "c449e47c455de73e247b06c3ffdb59c6d5c7e8be595e157111a51a20f1cc2d8b", func := "assize/assizekeep.Onward", spec := "onward", inPlace := ["(*internal/sync.Mutex).Lock", "internal/race.Disable", "sync/atomic.CompareAndSwapInt32", "internal/race.Enable", "internal/race.Acquire", "(*internal/sync.Mutex).lockSlow", "internal/sync.runtime_canSpin", "internal/sync.runtime_doSpin", "internal/sync.throw", "internal/sync.runtime_nanotime", "internal/sync.runtime_SemacquireMutex", "sync/atomic.AddInt32", "(*internal/sync.Mutex).Unlock", "internal/race.ReleaseMerge", "(*internal/sync.Mutex).unlockSlow", "internal/sync.fatal", "internal/sync.runtime_Semrelease"], unfollowed := true, recurses := true, apart := false }
def OnwardSaid : Prop := onwardRow.holds Try.pinned (OpenSpec.ofChange onwardSpec)

/-- ITS FALSE NEIGHBOUR: 'it returns false'. Refute it at one input. -/
def onwardWrong : ChangeSpec := { name := "onward", fn := fun _ => fun
  | [d1, d2] => { results := [.lit (.bool false)], args := [d1, d2] }
  | _ => none }
def OnwardWrongFalsely : Prop := onwardRow.holds Try.pinned (OpenSpec.ofChange onwardWrong)

/-- 'assizekeep.Third': WHATEVER THE INPUT: true; the input reads as it did. -/
def thirdSpec : ChangeSpec := { name := "third", fn := fun _ => fun
  | [d1, d2] => { results := [.lit (.bool true)], args := [d1, d2] }
  | _ => none }
def thirdRow : OpenClaim := { program := "ytgebcnnenhgkcaa", sum := "c449e47c455de73e247b06c3ffdb59c6d5c7e8be595e157111a51a20f1cc2d8b", func := "assize/assizekeep.Third", spec := "third", inPlace := ["(*internal/sync.Mutex).Lock", "internal/race.Disable", "sync/atomic.CompareAndSwapInt32", "internal/race.Enable", "internal/race.Acquire", "(*internal/sync.Mutex).lockSlow", "internal/sync.runtime_canSpin", "internal/sync.runtime_doSpin", "internal/sync.throw", "internal/sync.runtime_nanotime", "internal/sync.runtime_SemacquireMutex", "sync/atomic.AddInt32", "(*internal/sync.Mutex).Unlock", "internal/race.ReleaseMerge", "(*internal/sync.Mutex).unlockSlow", "internal/sync.fatal", "internal/sync.runtime_Semrelease"], unfollowed := true, recurses := true, apart := false }
def ThirdSaid : Prop := thirdRow.holds Try.pinned (OpenSpec.ofChange thirdSpec)

/-- ITS FALSE NEIGHBOUR: 'it returns false'. Refute it at one input. -/
def thirdWrong : ChangeSpec := { name := "third", fn := fun _ => fun
  | [d1, d2] => { results := [.lit (.bool false)], args := [d1, d2] }
  | _ => none }
def ThirdWrongFalsely : Prop := thirdRow.holds Try.pinned (OpenSpec.ofChange thirdWrong)

/- THE SECOND FORM. 'bulk': how many values and letters a reading holds, each counted each time it is reached (what is shared counts as often as it is met; a slice's spare places count too). A statement '..UptoSaid' is the law's where the arguments, and the package variables that the reading takes, are together of bulk at most 1048576: NARROWER than '..Said'. Prove '..Said' where nothing that the law and all that it calls make is longer than what came in: it says more and counts as full. Else prove '..UptoSaid'. A law counts once. -/
mutual
def uptoBulk {H : Type} : DataW H → Nat
  | .lit (.string bytes) => bytes.length + 1
  | .lit _ => 1
  | .nil => 1
  | .ptr d => uptoBulk d + 1
  | .slice elems spare => uptoBulkAll elems + uptoBulkAll spare + 1
  | .agg parts => uptoBulkAll parts + 1
  | .iface _ d => uptoBulk d + 1
  | .map entries => uptoBulkEntries entries + 1
  | .held _ => 1
def uptoBulkAll {H : Type} : List (DataW H) → Nat
  | [] => 0
  | d :: r => uptoBulk d + uptoBulkAll r
def uptoBulkEntries {H : Type} : List (Lit × DataW H) → Nat
  | [] => 0
  | x :: r => uptoBulkEntry x + uptoBulkEntries r
def uptoBulkEntry {H : Type} : Lit × DataW H → Nat
  | (.string bytes, d) => bytes.length + uptoBulk d + 1
  | (_, d) => uptoBulk d + 1
 end
def uptoSmall : (H : Type) → List (DataW H) → Bool := fun _ ds => decide (uptoBulkAll ds ≤ 1048576)
def OpenSpec.upto (s : _root_.Go.ChangeSpec) : _root_.Go.OpenSpec := { _root_.Go.OpenSpec.ofChange s with cond := some uptoSmall }

/-- 'assizelaw.Judges', WHERE WHAT IT READS IS OF BULK AT MOST 1048576: true; the input reads as it did. -/
def judgesUptoRow : OpenClaim := { program := "ytgebcnnenhgkcaa", sum := "c449e47c455de73e247b06c3ffdb59c6d5c7e8be595e157111a51a20f1cc2d8b", func := "assize/assizelaw.Judges", spec := "judges", unfollowed := true, recurses := true, apart := false, narrowed := true }
def JudgesUptoSaid : Prop := judgesUptoRow.holds Try.pinned (OpenSpec.upto judgesSpec)

/-- 'assizelaw.Unmade', WHERE WHAT IT READS IS OF BULK AT MOST 1048576: true; the input reads as it did. -/
def unmadeUptoRow : OpenClaim := { program := "ytgebcnnenhgkcaa", sum := "c449e47c455de73e247b06c3ffdb59c6d5c7e8be595e157111a51a20f1cc2d8b", func := "assize/assizelaw.Unmade", spec := "unmade", inPlace := ["(*internal/sync.Mutex).Lock", "internal/race.Disable", "sync/atomic.CompareAndSwapInt32", "internal/race.Enable", "internal/race.Acquire", "(*internal/sync.Mutex).lockSlow", "internal/sync.runtime_canSpin", "internal/sync.runtime_doSpin", "internal/sync.throw", "internal/sync.runtime_nanotime", "internal/sync.runtime_SemacquireMutex", "sync/atomic.AddInt32", "(*internal/sync.Mutex).Unlock", "internal/race.ReleaseMerge", "(*internal/sync.Mutex).unlockSlow", "internal/sync.fatal", "internal/sync.runtime_Semrelease"], unfollowed := true, recurses := true, apart := false, narrowed := true }
def UnmadeUptoSaid : Prop := unmadeUptoRow.holds Try.pinned (OpenSpec.upto unmadeSpec)

/-- 'assizekeep.Onward', WHERE WHAT IT READS IS OF BULK AT MOST 1048576: true; the input reads as it did. -/
def onwardUptoRow : OpenClaim := { program := "ytgebcnnenhgkcaa", sum := "c449e47c455de73e247b06c3ffdb59c6d5c7e8be595e157111a51a20f1cc2d8b", func := "assize/assizekeep.Onward", spec := "onward", inPlace := ["(*internal/sync.Mutex).Lock", "internal/race.Disable", "sync/atomic.CompareAndSwapInt32", "internal/race.Enable", "internal/race.Acquire", "(*internal/sync.Mutex).lockSlow", "internal/sync.runtime_canSpin", "internal/sync.runtime_doSpin", "internal/sync.throw", "internal/sync.runtime_nanotime", "internal/sync.runtime_SemacquireMutex", "sync/atomic.AddInt32", "(*internal/sync.Mutex).Unlock", "internal/race.ReleaseMerge", "(*internal/sync.Mutex).unlockSlow", "internal/sync.fatal", "internal/sync.runtime_Semrelease"], unfollowed := true, recurses := true, apart := false, narrowed := true }
def OnwardUptoSaid : Prop := onwardUptoRow.holds Try.pinned (OpenSpec.upto onwardSpec)

/-- 'assizekeep.Third', WHERE WHAT IT READS IS OF BULK AT MOST 1048576: true; the input reads as it did. -/
def thirdUptoRow : OpenClaim := { program := "ytgebcnnenhgkcaa", sum := "c449e47c455de73e247b06c3ffdb59c6d5c7e8be595e157111a51a20f1cc2d8b", func := "assize/assizekeep.Third", spec := "third", inPlace := ["(*internal/sync.Mutex).Lock", "internal/race.Disable", "sync/atomic.CompareAndSwapInt32", "internal/race.Enable", "internal/race.Acquire", "(*internal/sync.Mutex).lockSlow", "internal/sync.runtime_canSpin", "internal/sync.runtime_doSpin", "internal/sync.throw", "internal/sync.runtime_nanotime", "internal/sync.runtime_SemacquireMutex", "sync/atomic.AddInt32", "(*internal/sync.Mutex).Unlock", "internal/race.ReleaseMerge", "(*internal/sync.Mutex).unlockSlow", "internal/sync.fatal", "internal/sync.runtime_Semrelease"], unfollowed := true, recurses := true, apart := false, narrowed := true }
def ThirdUptoSaid : Prop := thirdUptoRow.holds Try.pinned (OpenSpec.upto thirdSpec)

end Rows
end Go.Proofs.Ytgebcnnenhgkcaa
