/- The numbers under which this dump holds the library's lock, and that it holds it. -/
import Derived.Test.YtbnepehlcfgpjaaGreatDoorRows
import Derived.Conc.MuLone
import Derived.KernelRfl
namespace Go.Proofs.YtbnepehlcfgpjaaGreatDoor
abbrev muL : Go.Conc.Locks.MuLink := { lock := 52, unlock := 53, ilock := 71, iunlock := 72, lockSlow := 95, unlockSlow := 98, disable := 91, enable := 93, acquire := 94, relMerge := 96, cas32 := 92, add32 := 97, tMutex := 51, tIMutex := 49, tPMutex := 122, tPIMutex := 159, tPI32 := 161, tUP := 163, tNoCopy := 46, tU32 := 47 }
theorem muLib : Go.Conc.Locks.MuLib Tryz.prog muL :=
  ⟨Tryz.func52, Tryz.func53, Tryz.func71, Tryz.func72, Tryz.func91, Tryz.func93, Tryz.func94, Tryz.func96, Tryz.func92, Tryz.func97,
   Tryz.underlying49, Tryz.runUnderlying49, Tryz.sizeOf49, Tryz.isAgg49, Tryz.zeroValue49,
   Tryz.underlying51, Tryz.runUnderlying51, Tryz.sizeOf51, Tryz.isAgg51, Tryz.zeroValue51,
   Tryz.underlying122, Tryz.runUnderlying122, Tryz.sizeOf122, Tryz.isAgg122, Tryz.zeroValue122,
   Tryz.underlying159, Tryz.runUnderlying159, Tryz.sizeOf159, Tryz.isAgg159, Tryz.zeroValue159,
   Tryz.underlying161, Tryz.runUnderlying161, Tryz.sizeOf161, Tryz.isAgg161, Tryz.zeroValue161,
   Tryz.underlying163, Tryz.runUnderlying163, Tryz.sizeOf163, Tryz.isAgg163, Tryz.zeroValue163,
   Tryz.underlying46, Tryz.runUnderlying46, Tryz.sizeOf46, Tryz.isAgg46, Tryz.zeroValue46,
   Tryz.underlying21, Tryz.runUnderlying21, Tryz.sizeOf21, Tryz.isAgg21, Tryz.zeroValue21,
   (by kernel_rfl)⟩
end Go.Proofs.YtbnepehlcfgpjaaGreatDoor
