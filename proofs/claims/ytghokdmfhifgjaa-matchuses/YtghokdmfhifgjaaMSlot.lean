/-
  The slot of a place.
-/
import Derived.Test.YtghokdmfhifgjaaMFd
namespace Go.Proofs.Ytghokdmfhifgjaa
open Go.RowKit Pl
set_option linter.unusedVariables false

/-- The slot of four bytes. -/
def slI (x0 x1 x2 x3 : Int) : Int :=
  bits BinOp.or IntKind.u32 (bits BinOp.or IntKind.u32 (bits BinOp.or IntKind.u32 x0 (x1 * 256)) (x2 * 65536)) (x3 * 16777216) * 2654435761 % 4294967296 / 1048576

theorem slI_bd (x0 x1 x2 x3 : Int) : 0 ≤ slI x0 x1 x2 x3 ∧ slI x0 x1 x2 x3 < 4096 := by
  unfold slI
  generalize bits BinOp.or IntKind.u32 (bits BinOp.or IntKind.u32 (bits BinOp.or IntKind.u32 x0 (x1 * 256)) (x2 * 65536)) (x3 * 16777216) * 2654435761 = y
  omega

/-- The slot of a place. -/
def sl (ds : List Int) (p : Nat) : Nat := (slI (ds.getD p 0) (ds.getD (p + 1) 0) (ds.getD (p + 2) 0) (ds.getD (p + 3) 0)).toNat

theorem sl_lt (ds : List Int) (p : Nat) : sl ds p < 4096 := by
  have := slI_bd (ds.getD p 0) (ds.getD (p + 1) 0) (ds.getD (p + 2) 0) (ds.getD (p + 3) 0)
  unfold sl
  omega

set_option maxRecDepth 100000 in
set_option maxHeartbeats 1000000 in
theorem slot_raw (F G n b o c at_ : Nat) (win lk : Int) (h : Nat → Int) (ad : List Int) (x0 x1 x2 x3 : Int) (w : World) (H : Fd w F G n (.slice (some ⟨b, o, none⟩) n c) win lk h ad) (hn : n ≤ 65536) (hc : n ≤ c) (hc2 : c ≤ 9223372036854775807) (ha : at_ + 4 ≤ n)
    (c0 : w.cell? ⟨b, o + at_, none⟩ = some (.int .u8 x0)) (c1 : w.cell? ⟨b, o + at_ + 1, none⟩ = some (.int .u8 x1)) (c2 : w.cell? ⟨b, o + at_ + 2, none⟩ = some (.int .u8 x2)) (c3 : w.cell? ⟨b, o + at_ + 3, none⟩ = some (.int .u8 x3))
    (b0 : 0 ≤ x0 ∧ x0 ≤ 255) (b1 : 0 ≤ x1 ∧ x1 ≤ 255) (b2 : 0 ≤ x2 ∧ x2 ≤ 255) (b3 : 0 ≤ x3 ∧ x3 ≤ 255) :
    Calls Try.prog 23 #[.pointer (some ⟨F, 0, none⟩), .int .i64 at_] w fun e w' => e = .returned (.int .i64 (slI x0 x1 x2 x3)) ∧ ∃ m, w' = w.drewN m := by
  have d0 := H.c0
  have HH : Hid (Fd w F G n (.slice (some ⟨b, o, none⟩) n c) win lk h ad) := H
  clear H
  have hac : at_ < c := by omega
  go_enter Try.func23, Try.ntmps23
  go_wp2_with fail
  go_quiet (fail)
  go_wp2_with fail
  go_ret
  exact ⟨rfl, _, rfl⟩

/-- What is known of the data. -/
def Dt (w : World) (b o n : Nat) (ds : List Int) : Prop := n = ds.length ∧ By ds ∧ ∀ i, i < n → w.cell? ⟨b, o + i, none⟩ = some (.int .u8 (ds.getD i 0))

theorem Dt.below {w w' : World} {b o n : Nat} {ds : List Int} (h : Dt w b o n ds) (hb : Below w.heap.size w w') : Dt w' b o n ds :=
  ⟨h.1, h.2.1, fun i hi => by have h0 := h.2.2 i hi; rw [hb.cell (p := ⟨b, o + i, none⟩) (World.block_lt_of_cell? w ⟨b, o + i, none⟩ h0), h0]⟩
theorem Dt.tch {S : Nat → Prop} {w w' : World} {b o n : Nat} {ds : List Int} (h : Dt w b o n ds) (hb : Tch S w w') (hn : ¬ S b) : Dt w' b o n ds :=
  ⟨h.1, h.2.1, fun i hi => by have h0 := h.2.2 i hi; rw [hb.cell (p := ⟨b, o + i, none⟩) (World.block_lt_of_cell? w ⟨b, o + i, none⟩ h0) hn, h0]⟩

theorem slot_any (F G n b o c at_ : Nat) (win lk : Int) (h : Nat → Int) (ad ds : List Int) (w : World) (H : Fd w F G n (.slice (some ⟨b, o, none⟩) n c) win lk h ad) (D : Dt w b o n ds) (hn : n ≤ 65536) (hc : n ≤ c) (hc2 : c ≤ 9223372036854775807) (ha : at_ + 4 ≤ n) :
    Calls Try.prog 23 #[.pointer (some ⟨F, 0, none⟩), .int .i64 at_] w fun e w' => e = .returned (.int .i64 (sl ds at_)) ∧ ∃ m, w' = w.drewN m := by
  have e : ((sl ds at_ : Nat) : Int) = slI (ds.getD at_ 0) (ds.getD (at_ + 1) 0) (ds.getD (at_ + 2) 0) (ds.getD (at_ + 3) 0) := by
    have := slI_bd (ds.getD at_ 0) (ds.getD (at_ + 1) 0) (ds.getD (at_ + 2) 0) (ds.getD (at_ + 3) 0)
    unfold sl
    omega
  rw [e]
  exact slot_raw F G n b o c at_ win lk h ad _ _ _ _ w H hn hc hc2 ha (D.2.2 _ (by omega)) (D.2.2 (at_ + 1) (by omega)) (D.2.2 (at_ + 2) (by omega)) (D.2.2 (at_ + 3) (by omega)) (D.2.1 _) (D.2.1 _) (D.2.1 _) (D.2.1 _)
end Go.Proofs.Ytghokdmfhifgjaa
