/- The numbers under which this dump holds the library's lock's functions and types, and that it holds them. -/
import Derived.Test.YtgebcnnenhgkcaaGreatProg
import Derived.Conc.MuLib
import Derived.Conc.MuData
import Derived.KernelRfl
namespace Go.Proofs.YtgebcnnenhgkcaaGreat
abbrev Tryz.muLink : Go.Conc.Locks.MuLink := { lock := 66, unlock := 67, ilock := 104, iunlock := 105, lockSlow := 130, unlockSlow := 133, disable := 126, enable := 128, acquire := 129, relMerge := 131, cas32 := 127, add32 := 132, tMutex := 95, tIMutex := 93, tPMutex := 145, tPIMutex := 160, tPI32 := 162, tUP := 164, tNoCopy := 90, tU32 := 91 }
theorem Tryz.muLib : Go.Conc.Locks.MuLib Tryz.prog Tryz.muLink :=
  ⟨Tryz.func66, Tryz.func67, Tryz.func104, Tryz.func105, Tryz.func126, Tryz.func128, Tryz.func129, Tryz.func131, Tryz.func127, Tryz.func132, Tryz.underlying93, Tryz.runUnderlying93, Tryz.sizeOf93, Tryz.isAgg93, Tryz.zeroValue93, Tryz.underlying95, Tryz.runUnderlying95, Tryz.sizeOf95, Tryz.isAgg95, Tryz.zeroValue95, Tryz.underlying145, Tryz.runUnderlying145, Tryz.sizeOf145, Tryz.isAgg145, Tryz.zeroValue145, Tryz.underlying160, Tryz.runUnderlying160, Tryz.sizeOf160, Tryz.isAgg160, Tryz.zeroValue160, Tryz.underlying162, Tryz.runUnderlying162, Tryz.sizeOf162, Tryz.isAgg162, Tryz.zeroValue162, Tryz.underlying164, Tryz.runUnderlying164, Tryz.sizeOf164, Tryz.isAgg164, Tryz.zeroValue164, Tryz.underlying90, Tryz.runUnderlying90, Tryz.sizeOf90, Tryz.isAgg90, Tryz.zeroValue90, Tryz.underlying21, Tryz.runUnderlying21, Tryz.sizeOf21, Tryz.isAgg21, Tryz.zeroValue21, (by kernel_rfl)⟩
theorem Tryz.muData : Go.Conc.Locks.MuData Tryz.prog Tryz.muLink := ⟨Tryz.underlying91, by kernel_rfl, by kernel_rfl, by kernel_rfl, by kernel_rfl, by kernel_rfl⟩
end Go.Proofs.YtgebcnnenhgkcaaGreat
