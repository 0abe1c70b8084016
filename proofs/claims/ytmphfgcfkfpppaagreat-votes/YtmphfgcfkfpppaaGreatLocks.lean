/- The numbers under which this dump holds the library's lock's functions and types, and that it holds them. -/
import Derived.Test.YtmphfgcfkfpppaaGreatProg
import Derived.Conc.MuLib
import Derived.Conc.MuData
import Derived.KernelRfl
namespace Go.Proofs.YtmphfgcfkfpppaaGreat
abbrev Tryz.muLink : Go.Conc.Locks.MuLink := { lock := 44, unlock := 45, ilock := 77, iunlock := 78, lockSlow := 99, unlockSlow := 102, disable := 95, enable := 97, acquire := 98, relMerge := 100, cas32 := 96, add32 := 101, tMutex := 69, tIMutex := 67, tPMutex := 119, tPIMutex := 132, tPI32 := 134, tUP := 136, tNoCopy := 64, tU32 := 65 }
theorem Tryz.muLib : Go.Conc.Locks.MuLib Tryz.prog Tryz.muLink :=
  ⟨Tryz.func44, Tryz.func45, Tryz.func77, Tryz.func78, Tryz.func95, Tryz.func97, Tryz.func98, Tryz.func100, Tryz.func96, Tryz.func101, Tryz.underlying67, Tryz.runUnderlying67, Tryz.sizeOf67, Tryz.isAgg67, Tryz.zeroValue67, Tryz.underlying69, Tryz.runUnderlying69, Tryz.sizeOf69, Tryz.isAgg69, Tryz.zeroValue69, Tryz.underlying119, Tryz.runUnderlying119, Tryz.sizeOf119, Tryz.isAgg119, Tryz.zeroValue119, Tryz.underlying132, Tryz.runUnderlying132, Tryz.sizeOf132, Tryz.isAgg132, Tryz.zeroValue132, Tryz.underlying134, Tryz.runUnderlying134, Tryz.sizeOf134, Tryz.isAgg134, Tryz.zeroValue134, Tryz.underlying136, Tryz.runUnderlying136, Tryz.sizeOf136, Tryz.isAgg136, Tryz.zeroValue136, Tryz.underlying64, Tryz.runUnderlying64, Tryz.sizeOf64, Tryz.isAgg64, Tryz.zeroValue64, Tryz.underlying21, Tryz.runUnderlying21, Tryz.sizeOf21, Tryz.isAgg21, Tryz.zeroValue21, (by kernel_rfl)⟩
theorem Tryz.muData : Go.Conc.Locks.MuData Tryz.prog Tryz.muLink := ⟨Tryz.underlying65, by kernel_rfl, by kernel_rfl, by kernel_rfl, by kernel_rfl, by kernel_rfl⟩
end Go.Proofs.YtmphfgcfkfpppaaGreat
