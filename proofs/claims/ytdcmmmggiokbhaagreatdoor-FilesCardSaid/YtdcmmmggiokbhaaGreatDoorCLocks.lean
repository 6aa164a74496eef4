/- The numbers under which this dump holds the library's lock, and that it holds it. -/
import Derived.Test.YtdcmmmggiokbhaaGreatDoorRows
import Derived.Conc.MuLone
import Derived.KernelRfl
namespace Go.Proofs.YtdcmmmggiokbhaaGreatDoor
abbrev muL : Go.Conc.Locks.MuLink := { lock := 42, unlock := 43, ilock := 77, iunlock := 78, lockSlow := 107, unlockSlow := 110, disable := 103, enable := 105, acquire := 106, relMerge := 108, cas32 := 104, add32 := 109, tMutex := 51, tIMutex := 49, tPMutex := 131, tPIMutex := 175, tPI32 := 177, tUP := 179, tNoCopy := 46, tU32 := 47 }
theorem muLib : Go.Conc.Locks.MuLib Tryz.prog muL :=
  ⟨Tryz.func42, Tryz.func43, Tryz.func77, Tryz.func78, Tryz.func103, Tryz.func105, Tryz.func106, Tryz.func108, Tryz.func104, Tryz.func109,
   Tryz.underlying49, Tryz.runUnderlying49, Tryz.sizeOf49, Tryz.isAgg49, Tryz.zeroValue49,
   Tryz.underlying51, Tryz.runUnderlying51, Tryz.sizeOf51, Tryz.isAgg51, Tryz.zeroValue51,
   Tryz.underlying131, Tryz.runUnderlying131, Tryz.sizeOf131, Tryz.isAgg131, Tryz.zeroValue131,
   Tryz.underlying175, Tryz.runUnderlying175, Tryz.sizeOf175, Tryz.isAgg175, Tryz.zeroValue175,
   Tryz.underlying177, Tryz.runUnderlying177, Tryz.sizeOf177, Tryz.isAgg177, Tryz.zeroValue177,
   Tryz.underlying179, Tryz.runUnderlying179, Tryz.sizeOf179, Tryz.isAgg179, Tryz.zeroValue179,
   Tryz.underlying46, Tryz.runUnderlying46, Tryz.sizeOf46, Tryz.isAgg46, Tryz.zeroValue46,
   Tryz.underlying21, Tryz.runUnderlying21, Tryz.sizeOf21, Tryz.isAgg21, Tryz.zeroValue21,
   (by kernel_rfl)⟩
end Go.Proofs.YtdcmmmggiokbhaaGreatDoor
