/- The numbers under which this dump holds the library's lock's functions and types, and that it holds them. -/
import Derived.Test.YtmphfgcfkfpppaaProg
import Derived.Conc.MuLib
import Derived.Conc.MuData
import Derived.KernelRfl
namespace Go.Proofs.Ytmphfgcfkfpppaa
abbrev Try.muLink : Go.Conc.Locks.MuLink := { lock := 36, unlock := 37, ilock := 50, iunlock := 51, lockSlow := 67, unlockSlow := 70, disable := 63, enable := 65, acquire := 66, relMerge := 68, cas32 := 64, add32 := 69, tMutex := 30, tIMutex := 28, tPMutex := 87, tPIMutex := 98, tPI32 := 100, tUP := 102, tNoCopy := 25, tU32 := 26 }
theorem Try.muLib : Go.Conc.Locks.MuLib Try.prog Try.muLink :=
  ⟨Try.func36, Try.func37, Try.func50, Try.func51, Try.func63, Try.func65, Try.func66, Try.func68, Try.func64, Try.func69, Try.underlying28, Try.runUnderlying28, Try.sizeOf28, Try.isAgg28, Try.zeroValue28, Try.underlying30, Try.runUnderlying30, Try.sizeOf30, Try.isAgg30, Try.zeroValue30, Try.underlying87, Try.runUnderlying87, Try.sizeOf87, Try.isAgg87, Try.zeroValue87, Try.underlying98, Try.runUnderlying98, Try.sizeOf98, Try.isAgg98, Try.zeroValue98, Try.underlying100, Try.runUnderlying100, Try.sizeOf100, Try.isAgg100, Try.zeroValue100, Try.underlying102, Try.runUnderlying102, Try.sizeOf102, Try.isAgg102, Try.zeroValue102, Try.underlying25, Try.runUnderlying25, Try.sizeOf25, Try.isAgg25, Try.zeroValue25, Try.underlying21, Try.runUnderlying21, Try.sizeOf21, Try.isAgg21, Try.zeroValue21, (by kernel_rfl)⟩
theorem Try.muData : Go.Conc.Locks.MuData Try.prog Try.muLink := ⟨Try.underlying26, by kernel_rfl, by kernel_rfl, by kernel_rfl, by kernel_rfl, by kernel_rfl⟩
end Go.Proofs.Ytmphfgcfkfpppaa
