import Derived.Test.YtjhccpijpffahaaGreatPTEnt
import Derived.Test.YtjhccpijpffahaaGreatPTRow
import Derived.Test.YtjhccpijpffahaaGreatPTPl
import Derived.Laws.Cover1
set_option maxRecDepth 100000
set_option linter.unusedVariables false
set_option linter.unusedSimpArgs false
set_option maxHeartbeats 8000000
namespace Go.Proofs.YtjhccpijpffahaaGreat
open Go.RowKit Pl
def mayE (key val : ByteArray) : Bool:=!eqs key eS && (decide (key.size <= 24) && decide (val.size <= 24))
theorem zkt9 {key val : ByteArray} : mayE key val = true ↔ key ≠ eS /\ key.size <= 24 /\ val.size <= 24:=by
 unfold mayE
 rw [Bool.and_eq_true,Bool.and_eq_true,decide_eq_true_iff,decide_eq_true_iff,Bool.not_eq_true']
 constructor
 ·rintro ⟨h,h2⟩; exact ⟨fun e => (by rw [eqsP.2 e] at h; cases h),h2⟩
 ·rintro ⟨h,h2⟩; exact ⟨eqs_ne h,h2⟩
theorem zqr9 (key val : ByteArray) (hkm : key.size <= 4611686018427387904) (hvm : val.size <= 4611686018427387904) (w : World) :
  Calls Tryz.prog 31 #[.string key,.string val] w fun e w' => e = .returned (.bool (mayE key val)) /\ w' = w:=by
 obtain ⟨em,hem⟩:=exN key.toList.isEmpty
 have hes : eqs key eS = em:=by rw [<- hem]; unfold eqs eS; simp
 obtain ⟨m,hm⟩:=exH (mayE key val)
 have HM : Hid (m = (!em && (decide (key.size <= 24) && decide (val.size <= 24)))):=by show _ = _; rw [<- hm.out]; unfold mayE; rw [hes]
 rw [hm.out]
 clear hm hes
 go_enter Tryz.func31,Tryz.ntmps31
 cases em with
 | true =>
  obtain rfl : m = false:=by rw [HM.out]; rfl
  clear HM
  go_wp2_with fail
  go_ret
  exact ⟨rfl,rfl⟩
 | false =>
  by_cases q1 : key.size <= 24
  ·have l1 : decide ((key.size : Int) <= 24) = true:=by rw [decide_eq_true_iff]; omega
   have l1' : decide (key.size <= 24) = true:=decide_eq_true q1
   by_cases q2 : val.size <= 24
   ·have l2 : decide ((val.size : Int) <= 24) = true:=by rw [decide_eq_true_iff]; omega
    have l2' : decide (val.size <= 24) = true:=decide_eq_true q2
    obtain rfl : m = true:=by rw [HM.out,l1',l2']; rfl
    clear HM
    go_wp2_with fail
    go_ret
    exact ⟨rfl,rfl⟩
   ·have l2 : decide ((val.size : Int) <= 24) = false:=by rw [zn4]; omega
    have l2' : decide (val.size <= 24) = false:=decide_eq_false q2
    obtain rfl : m = false:=by rw [HM.out,l1',l2']; rfl
    clear HM
    go_wp2_with fail
    go_ret
    exact ⟨rfl,rfl⟩
  ·have l1 : decide ((key.size : Int) <= 24) = false:=by rw [zn4]; omega
   have l1' : decide (key.size <= 24) = false:=decide_eq_false q1
   obtain rfl : m = false:=by rw [HM.out,l1']; rfl
   clear HM
   go_wp2_with fail
   go_ret
   exact ⟨rfl,rfl⟩
end Go.Proofs.YtjhccpijpffahaaGreat
