/- The numbers under which this dump holds the library's lock's functions and types, and that it holds them. -/
import Derived.Test.YtalkalnncegicaaProg
import Derived.Conc.MuLib
import Derived.Conc.MuData
import Derived.KernelRfl
namespace Go.Proofs.Ytalkalnncegicaa
abbrev Try.muLink : Go.Conc.Locks.MuLink := { lock := 45, unlock := 46, ilock := 72, iunlock := 73, lockSlow := 89, unlockSlow := 92, disable := 85, enable := 87, acquire := 88, relMerge := 90, cas32 := 86, add32 := 91, tMutex := 57, tIMutex := 55, tPMutex := 111, tPIMutex := 121, tPI32 := 123, tUP := 125, tNoCopy := 52, tU32 := 53 }
theorem Try.muLib : Go.Conc.Locks.MuLib Try.prog Try.muLink :=
  ⟨Try.func45, Try.func46, Try.func72, Try.func73, Try.func85, Try.func87, Try.func88, Try.func90, Try.func86, Try.func91, Try.underlying55, Try.runUnderlying55, Try.sizeOf55, Try.isAgg55, Try.zeroValue55, Try.underlying57, Try.runUnderlying57, Try.sizeOf57, Try.isAgg57, Try.zeroValue57, Try.underlying111, Try.runUnderlying111, Try.sizeOf111, Try.isAgg111, Try.zeroValue111, Try.underlying121, Try.runUnderlying121, Try.sizeOf121, Try.isAgg121, Try.zeroValue121, Try.underlying123, Try.runUnderlying123, Try.sizeOf123, Try.isAgg123, Try.zeroValue123, Try.underlying125, Try.runUnderlying125, Try.sizeOf125, Try.isAgg125, Try.zeroValue125, Try.underlying52, Try.runUnderlying52, Try.sizeOf52, Try.isAgg52, Try.zeroValue52, Try.underlying21, Try.runUnderlying21, Try.sizeOf21, Try.isAgg21, Try.zeroValue21, (by kernel_rfl)⟩
theorem Try.muData : Go.Conc.Locks.MuData Try.prog Try.muLink := ⟨Try.underlying53, by kernel_rfl, by kernel_rfl, by kernel_rfl, by kernel_rfl, by kernel_rfl⟩
end Go.Proofs.Ytalkalnncegicaa
