/-
  When two rows of bytes are the same.
-/
import Derived.Test.YtbpaeecclikeiaaRow
namespace Go.Proofs.Ytbpaeecclikeiaa
open Go.RowKit Pl
set_option linter.unusedVariables false

set_option maxHeartbeats 1000000 in
theorem same_any (a b o p ca cb : Nat) (xs ys : List Int) (w : World) (hl : xs.length = ys.length) (h63 : xs.length ≤ 9223372036854775807)
    (hx : ∀ i, i < xs.length → w.cell? ⟨a, o + i, none⟩ = some (.int .u8 (xs.getD i 0))) (hy : ∀ i, i < ys.length → w.cell? ⟨b, p + i, none⟩ = some (.int .u8 (ys.getD i 0))) :
    Calls Try.prog 33 #[.slice (some ⟨a, o, none⟩) xs.length ca, .slice (some ⟨b, p, none⟩) xs.length cb] w fun e w' => e = .returned (.bool (decide (xs = ys))) ∧ Below w.heap.size w w' := by
  have HX : Hid (∀ i, i < xs.length → w.cell? ⟨a, o + i, none⟩ = some (.int .u8 (xs.getD i 0))) := hx
  have HY : Hid (∀ i, i < ys.length → w.cell? ⟨b, p + i, none⟩ = some (.int .u8 (ys.getD i 0))) := hy
  have HL : Hid (xs.length = ys.length) := hl
  clear hx hy hl
  go_enter Try.func33, Try.ntmps33
  go_wp2
  go_loopw [5] (fun i wr => ∃ k : Nat, k ≤ xs.length ∧ i = .int .i64 k ∧ Hid (∀ j, j < k → xs.getD j 0 = ys.getD j 0) ∧ Below w.heap.size w wr) (fun i _ => xs.length - (intOf i).toNat)
  case atStart => exact ⟨0, Nat.zero_le _, rfl, fun j hj => by omega, Below.refl _ _⟩
  case round =>
    obtain ⟨k, hk, rfl, hE, hB⟩ := hrel
    have HB : Hid (Below w.heap.size w wr) := hB
    clear hB
    by_cases hlt : k < xs.length
    · obtain ⟨x, hxe⟩ : ∃ x, Hid (xs.getD k 0 = x) := ⟨_, rfl⟩
      obtain ⟨y, hye⟩ : ∃ y, Hid (ys.getD k 0 = y) := ⟨_, rfl⟩
      have cx : wr.cell? ⟨a, o + k, none⟩ = some (.int .u8 x) := by
        have h := HX.out k hlt
        rw [HB.out.cell (p := ⟨a, o + k, none⟩) (World.block_lt_of_cell? w ⟨a, o + k, none⟩ h), h, hxe.out]
      have cy : wr.cell? ⟨b, p + k, none⟩ = some (.int .u8 y) := by
        have h := HY.out k (by rw [← HL.out]; exact hlt)
        rw [HB.out.cell (p := ⟨b, p + k, none⟩) (World.block_lt_of_cell? w ⟨b, p + k, none⟩ h), h, hye.out]
      by_cases hxy : x = y
      · have hd : (x != y) = false := by simp [hxy]
        have HXY : Hid (x = y) := hxy
        clear hxy
        go_wp2
        go_quiet (fail)
        go_wp2
        go_roundw
        case rel =>
          refine ⟨k + 1, by omega, by go_num, fun j hj => ?_, ?_⟩
          · by_cases e : j < k
            · exact hE.out j e
            · have : j = k := by omega
              subst this
              rw [hxe.out, hye.out]; exact HXY.out
          · exact HB.out.trans (Below.of_drewN _ _ _)
        case measure => simp [intOf]; omega
      · have hd : (x != y) = true := by simp [hxy]
        go_wp2
        go_quiet (fail)
        go_wp2
        go_ret
        refine ⟨?_, HB.out.trans (Below.of_drewN _ _ _)⟩
        have : ¬ xs = ys := fun e => hxy (by rw [← hxe.out, ← hye.out, e])
        simp [this]
    · go_wp2
      go_ret
      refine ⟨?_, HB.out⟩
      have : xs = ys := list_eq_of_getD HL.out fun i hi => hE.out i (by omega)
      simp [this]

theorem same_unlike (a b : Option Addr) (la lb ca cb : Nat) (w : World) (hl : la ≠ lb) :
    Calls Try.prog 33 #[.slice a la ca, .slice b lb cb] w fun e w' => e = .returned (.bool false) ∧ w' = w := by
  have h : ((la : Int) != (lb : Int)) = true := by simp; omega
  clear hl
  go_enter Try.func33, Try.ntmps33
  go_wp2
  go_ret
  exact ⟨rfl, rfl⟩

theorem same_empty (a b : Option Addr) (ca cb : Nat) (w : World) :
    Calls Try.prog 33 #[.slice a 0 ca, .slice b 0 cb] w fun e w' => e = .returned (.bool true) ∧ w' = w := by
  go_enter Try.func33, Try.ntmps33
  go_wp2
  go_loop [5] (fun i => i = .int .i64 0) (fun _ => 0)
  case atStart => rfl
  case round =>
    subst hrel
    go_wp2
    go_ret
    exact ⟨rfl, rfl⟩

/-- Two rows of bytes that can be read: are they the same? -/
theorem same_rd (u v : Value) (xs ys : List Int) (w : World) (hx : Rd .u8 w u xs) (hy : Rd .u8 w v ys) :
    Calls Try.prog 33 #[u, v] w fun e w' => e = .returned (.bool (decide (xs = ys))) ∧ Below w.heap.size w w' := by
  obtain ⟨a, ca, rfl, h1, h2, _, hx⟩ := hx
  obtain ⟨b, cb, rfl, h3, h4, _, hy⟩ := hy
  by_cases hl : xs.length = ys.length
  · rcases hx with rfl | ⟨ab, ao, rfl, hx⟩
    · have : ys = [] := List.eq_nil_of_length_eq_zero (by simpa using hl.symm)
      subst this
      refine (same_empty a b ca cb w).mono ?_
      rintro e w' ⟨rfl, rfl⟩
      exact ⟨by simp, Below.refl _ _⟩
    · rcases hy with rfl | ⟨bb, bo, rfl, hy⟩
      · have : xs = [] := List.eq_nil_of_length_eq_zero (by simpa using hl)
        subst this
        refine (same_empty _ b ca cb w).mono ?_
        rintro e w' ⟨rfl, rfl⟩
        exact ⟨by simp, Below.refl _ _⟩
      · have := same_any ab bb ao bo ca cb xs ys w hl (by unfold maxLen at h2; omega) hx hy
        rw [← hl]
        exact this
  · refine (same_unlike a b _ _ ca cb w hl).mono ?_
    rintro e w' ⟨rfl, rfl⟩
    have : ¬ xs = ys := fun e => hl (by rw [e])
    exact ⟨by simp [this], Below.refl _ _⟩
end Go.Proofs.Ytbpaeecclikeiaa
