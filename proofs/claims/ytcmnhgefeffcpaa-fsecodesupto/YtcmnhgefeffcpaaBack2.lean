/-
  A new backward reader, the document's bits ahead of the mark, and its take from the end.
-/
import Derived.Test.YtcmnhgefeffcpaaBack
namespace Go.Proofs.Ytcmnhgefeffcpaa
open Go.RowKit Pl
set_option linter.unusedVariables false

theorem newBack_none (a : Option Addr) (cap : Nat) (w : World) :
    Calls Try.prog 33 #[.slice a 0 cap] w fun e w' => e = .returned (.tuple #[.pointer none, .int .i64 3]) ∧ w' = w := by
  go_enter Try.func33, Try.ntmps33
  go_wp2_with fail
  go_ret2
  exact ⟨rfl, rfl⟩

theorem newBack_bad (b o cap : Nat) (ys : List Int) (w : World) (hl : 0 < ys.length) (h63 : ys.length ≤ 9223372036854775807) (h0 : ys.getD (ys.length - 1) 0 = 0)
    (hc : ∀ i, i < ys.length → w.cell? ⟨b, o + i, none⟩ = some (.int .u8 (ys.getD i 0))) :
    Calls Try.prog 33 #[.slice (some ⟨b, o, none⟩) ys.length cap] w fun e w' => e = .returned (.tuple #[.pointer none, .int .i64 3]) ∧ w' = w := by
  have c : w.cell? ⟨b, o + (ys.length - 1), none⟩ = some (.int .u8 0) := by rw [hc _ (by omega), h0]
  clear hc h0
  go_enter Try.func33, Try.ntmps33
  go_wp2_with fail
  go_ret2
  exact ⟨rfl, rfl⟩

set_option maxHeartbeats 1000000 in
theorem newBack_ok (b o cap : Nat) (ys : List Int) (w : World) (hrd : Rd .u8 w (.slice (some ⟨b, o, none⟩) ys.length cap) ys) (hy : By ys) (hm : HasMark ys) (hl : ys.length ≤ 140737488355328)
    (hc : ∀ i, i < ys.length → w.cell? ⟨b, o + i, none⟩ = some (.int .u8 (ys.getD i 0))) :
    Calls Try.prog 33 #[.slice (some ⟨b, o, none⟩) ys.length cap] w fun e w' => ∃ b' rv, e = .returned (.tuple #[.pointer (some ⟨b', 0, none⟩), .int .i64 0]) ∧ Bk w' b' rv ys (markAt ys) ∧
      Below w.heap.size w w' ∧ w.heap.size ≤ b' ∧ ∀ k, rv.ownBlock = some k → w.heap.size ≤ k := by
  have HR : Hid (Rd .u8 w (.slice (some ⟨b, o, none⟩) ys.length cap) ys) := hrd
  have HY : Hid (By ys) := hy
  have hml := (mark_lt hy hm).1
  have HM : Hid (markAt ys < 8 * ys.length) := hml
  have hl0 := hm.1
  obtain ⟨y, hye⟩ : ∃ y, Hid (ys.getD (ys.length - 1) 0 = y) := ⟨_, rfl⟩
  have hyb : 0 ≤ y ∧ y ≤ 255 := by rw [← hye.out]; exact hy _
  have hne : (y == 0) = false := by have := hm.2; rw [hye.out] at this; simpa using this
  have hL : 1 ≤ Lib.bitLen y.toNat ∧ Lib.bitLen y.toNat ≤ 8 := by
    have := bitLen_fin ⟨y.toNat, by omega⟩ (by have := hm.2; rw [hye.out] at this; simp; omega)
    exact ⟨this.1, this.2.1⟩
  have HMK : Hid (((markAt ys : Nat) : Int) = 8 * ((ys.length : Int) - 1) + (Lib.bitLen y.toNat : Int) - 1) := by
    show _ = _
    unfold markAt
    rw [hye.out]
    omega
  have c : w.cell? ⟨b, o + (ys.length - 1), none⟩ = some (.int .u8 y) := by rw [hc _ (by omega), hye.out]
  have HL8 : Hid (∀ w : World, Calls Try.prog 57 #[.int .u8 y] w fun e w' => e = .returned (.int .i64 ((Lib.bitLen y.toNat : Nat) : Int)) ∧ w' = w) := fun w => len8_lib y w hyb.1 hyb.2
  clear hrd hy hm hml hc
  generalize Lib.bitLen y.toNat = t at *
  go_enter Try.func33, Try.ntmps33
  go_wp2_with fail
  refine (HL8.out _).mono ?_
  rintro e w ⟨rfl, rfl⟩
  go_wp2_with fail
  refine (fresh_owns _ ys _ HR.out hl).mono ?_
  rintro e w1 ⟨v1, rfl, ho, hg⟩
  obtain ⟨b1, f1⟩ := hg.below
  have HO : Hid (Owns .u8 5 w1 v1 ys) := ho
  have B1 : Hid (Below w.heap.size w w1) := b1
  have F1 : Hid (∀ k, v1.ownBlock = some k → w.heap.size ≤ k) := f1
  clear ho hg b1 f1
  obtain ⟨a, cap', hv⟩ : ∃ a cap, v1 = .slice a ys.length cap := by obtain ⟨a, cap, e, _⟩ := HO.out.rd; exact ⟨a, cap, e⟩
  subst hv
  go_wp2_with fail
  go_ret2
  refine ⟨w1.heap.size, _, rfl, ⟨?_, HO.out.below ((Below.refl _ _).alloc (Nat.le_refl _) _), HY.out, Nat.le_of_lt HM.out, hl⟩, B1.out.alloc B1.out.size _, B1.out.size, F1.out⟩
  rw [HMK.out]
  exact heap_alloc_new w1 _

/-- A new backward reader, of bytes that can be read. -/
theorem newBack_rd (v : Value) (ys : List Int) (w : World) (h : Rd .u8 w v ys) (hy : By ys) (hl : ys.length ≤ 140737488355328) :
    Calls Try.prog 33 #[v] w fun e w' => (HasMark ys ∧ ∃ b rv, e = .returned (.tuple #[.pointer (some ⟨b, 0, none⟩), .int .i64 0]) ∧ Bk w' b rv ys (markAt ys) ∧ Below w.heap.size w w' ∧ w.heap.size ≤ b ∧ ∀ k, rv.ownBlock = some k → w.heap.size ≤ k) ∨
      (¬ HasMark ys ∧ e = .returned (.tuple #[.pointer none, .int .i64 3]) ∧ w' = w) := by
  have h0 := h
  obtain ⟨a, cap, rfl, _, hm, _, h⟩ := h
  unfold maxLen at hm
  rcases h with rfl | ⟨b, o, rfl, hc⟩
  · refine (newBack_none a cap w).mono ?_
    rintro e w' ⟨rfl, rfl⟩
    exact .inr ⟨fun h => by have := h.1; simp at this, rfl, rfl⟩
  · by_cases hl0 : 0 < ys.length
    · by_cases h00 : ys.getD (ys.length - 1) 0 = 0
      · refine (newBack_bad b o cap ys w hl0 (by omega) h00 hc).mono ?_
        rintro e w' ⟨rfl, rfl⟩
        exact .inr ⟨fun h => h.2 h00, rfl, rfl⟩
      · refine (newBack_ok b o cap ys w h0 hy ⟨hl0, h00⟩ hl hc).mono ?_
        rintro e w' h
        exact .inl ⟨⟨hl0, h00⟩, h⟩
    · obtain rfl : ys = [] := List.eq_nil_of_length_eq_zero (by omega)
      refine (newBack_none _ cap w).mono ?_
      rintro e w' ⟨rfl, rfl⟩
      exact .inr ⟨fun h => by have := h.1; simp at this, rfl, rfl⟩
end Go.Proofs.Ytcmnhgefeffcpaa
