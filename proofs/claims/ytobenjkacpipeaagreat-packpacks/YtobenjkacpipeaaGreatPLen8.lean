import Derived.Test.YtobenjkacpipeaaGreatProg
import Derived.Lib.Strings
import Derived.Lib.Slices
import Derived.Lib.Small
import Derived.Lib.Walk
import Derived.Lib.BitFns
set_option maxRecDepth 100000
set_option linter.unusedVariables false
set_option linter.unusedSimpArgs false
set_option maxHeartbeats 8000000
namespace Go.Proofs.YtobenjkacpipeaaGreat
theorem zxi9 (x : Int) (w : World) (h0 : 0 <= x) (h1 : x <= 255) :
  Calls Tryz.prog 159 #[.int .u8 x] w fun e w' => e = .returned (.int .i64 (Lib.bitLen x.toNat)) /\ w' = w := by
 rw [<- Lib.len8_int x h0 h1]
 go_enter Tryz.func159, Tryz.ntmps159
 go_wp2
 go_ret
 exact ⟨rfl, rfl⟩
theorem zxk9 (x : Int) (w : World) (h0 : 0 <= x) (h1 : x <= 255) :
  Calls Tryz.prog 139 #[.int .u64 x] w fun e w' => e = .returned (.int .i64 (Lib.bitLen x.toNat)) /\ w' = w := by
 rw [<- Lib.len8_int x h0 h1]
 have e1 : x % 256 = x := by omega
 go_enter Tryz.func139, Tryz.ntmps139
 go_wp2
 go_ret
 exact ⟨rfl, rfl⟩
theorem zxr9 (x : Int) (w : World) (h0 : 256 <= x) (h1 : x <= 65535) :
  Calls Tryz.prog 139 #[.int .u64 x] w fun e w' => e = .returned (.int .i64 (Lib.bitLen x.toNat)) /\ w' = w := by
 have e0 : Lib.bitLen x.toNat = 8 + Lib.bitLen (x / 256).toNat := by
  rw [Lib.bitLen_shift8 x.toNat (by omega) (by omega)]
  congr 2
  omega
 have e1 : x / 256 % 256 = x / 256 := by omega
 have e2 : Lib.len8 (x / 256) = (Lib.bitLen (x / 256).toNat : Int) := Lib.len8_of _ (by omega) (by omega)
 have hsz : Lib.len8tab.size = 256 := by decide +kernel
 have hb : 0 <= x / 256 /\ x / 256 < (Lib.len8tab.size : Int) := ⟨by omega, by rw [hsz]; omega⟩
 clear hsz
 have hy0 : 0 <= x / 256 := by omega
 have hy1 : x / 256 <= 255 := by omega
 have hB := Lib.bitLen_le8' (x / 256) hy0 hy1
 rw [e0]
 clear e0
 generalize Lib.bitLen (x / 256).toNat = B at *
 have e3 : ((8 + B : Nat) : Int) = ((8 + (((B : Int) + 9223372036854775808) % 18446744073709551616 - 9223372036854775808) + 9223372036854775808) % 18446744073709551616 - 9223372036854775808) := by omega
 rw [e3]
 clear e3
 go_enter Tryz.func139, Tryz.ntmps139
 go_wp2
 go_ret
 exact ⟨rfl, rfl⟩
theorem zsp9 (x : Int) (w : World) (h0 : 0 <= x) (h1 : x <= 65535) :
  Calls Tryz.prog 139 #[.int .u64 x] w fun e w' => e = .returned (.int .i64 (Lib.bitLen x.toNat)) /\ w' = w := by
 by_cases h : x <= 255
 ·exact zxk9 x w h0 h
 ·exact zxr9 x w (by omega) h1
theorem zqf9 (x : Int) (w : World) (h0 : 0 <= x) (h1 : x <= 65535) :
  Calls Tryz.prog 115 #[.int .u64 x] w fun e w' => e = .returned (.int .i64 (Lib.bitLen x.toNat)) /\ w' = w := by
 go_enter Tryz.func115, Tryz.ntmps115
 go_wp2_with (go_at_call 139; refine (zsp9 x _ h0 h1).mono ?_; rintro e w1 ⟨rfl, rfl⟩)
 go_ret
 exact ⟨rfl, rfl⟩
end Go.Proofs.YtobenjkacpipeaaGreat
