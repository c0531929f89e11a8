/-
  The document's bits ahead of the mark.
-/
import Derived.Test.YtcmnhgefeffcpaaBack2
import Derived.Test.YtcmnhgefeffcpaaRowX
namespace Go.Proofs.Ytcmnhgefeffcpaa
open Go.RowKit Pl
set_option linter.unusedVariables false

theorem marked_none (a : Option Addr) (cap : Nat) (w : World) :
    Calls Try.prog 37 #[.slice a 0 cap] w fun e w' => e = .returned (.tuple #[.slice none 0 0, .bool false]) ∧ w' = w := by
  go_enter Try.func37, Try.ntmps37
  go_wp2_with fail
  go_ret2
  exact ⟨rfl, rfl⟩

theorem marked_bad (b o cap : Nat) (ys : List Int) (w : World) (hl : 0 < ys.length) (h63 : ys.length ≤ 9223372036854775807) (h0 : ys.getD (ys.length - 1) 0 = 0)
    (hc : ∀ i, i < ys.length → w.cell? ⟨b, o + i, none⟩ = some (.int .u8 (ys.getD i 0))) :
    Calls Try.prog 37 #[.slice (some ⟨b, o, none⟩) ys.length cap] w fun e w' => e = .returned (.tuple #[.slice none 0 0, .bool false]) ∧ w' = w := by
  have c : w.cell? ⟨b, o + (ys.length - 1), none⟩ = some (.int .u8 0) := by rw [hc _ (by omega), h0]
  have hne : ((ys.length : Int) == 0) = false := by simp; intro e; simp [e] at hl
  clear hc h0
  go_enter Try.func37, Try.ntmps37
  go_wp2_with fail
  go_ret2
  exact ⟨rfl, rfl⟩

set_option maxHeartbeats 1000000 in
theorem marked_ok (b o cap : Nat) (ys : List Int) (w : World) (hrd : Rd .u8 w (.slice (some ⟨b, o, none⟩) ys.length cap) ys) (hy : By ys) (hm : HasMark ys) (hl : ys.length ≤ 1048576)
    (hc : ∀ i, i < ys.length → w.cell? ⟨b, o + i, none⟩ = some (.int .u8 (ys.getD i 0))) :
    Calls Try.prog 37 #[.slice (some ⟨b, o, none⟩) ys.length cap] w fun e w' => ∃ v', e = .returned (.tuple #[v', .bool true]) ∧ Rd .i64 w' v' ((unpack ys).take (markAt ys)) ∧
      Below w.heap.size w w' ∧ ∀ k, v'.ownBlock = some k → w.heap.size ≤ k := by
  have HR : Hid (Rd .u8 w (.slice (some ⟨b, o, none⟩) ys.length cap) ys) := hrd
  have HY : Hid (By ys) := hy
  obtain ⟨hml, hm1, hm0⟩ := mark_lt hy hm
  have hl0 := hm.1
  obtain ⟨M, HMM⟩ : ∃ M, Hid (markAt ys = M) := ⟨_, rfl⟩
  rw [HMM.out] at hml hm1 hm0 ⊢
  obtain ⟨y, hye⟩ : ∃ y, Hid (ys.getD (ys.length - 1) 0 = y) := ⟨_, rfl⟩
  have hne : (y == 0) = false := by have := hm.2; rw [hye.out] at this; simpa using this
  have hne' : ((ys.length : Int) == 0) = false := by simp; intro e; simp [e] at hl0
  have c : w.cell? ⟨b, o + (ys.length - 1), none⟩ = some (.int .u8 y) := by rw [hc _ (by omega), hye.out]
  have HM1 : Hid ((unpack ys).getD M 0 = 1 ∧ ∀ p, M < p → p < 8 * ys.length → (unpack ys).getD p 0 = 0) := ⟨hm1, hm0⟩
  clear hrd hy hm hm1 hm0 hc
  go_enter Try.func37, Try.ntmps37
  go_wp2_with fail
  refine (row_rd _ ys w HR.out HY.out hl).mono ?_
  rintro e w1 ⟨v1, rfl, ho, hg⟩
  obtain ⟨b1, f1⟩ := hg.below
  obtain ⟨g, cap', hv, hgl, hlc, hcm, hcell, _⟩ := ho.shape (by rw [unpack_length]; omega)
  subst hv
  rw [unpack_length] at hlc ⊢
  have HCELL : Hid (∀ i, i < (unpack ys).length → w1.cell? ⟨g, i, none⟩ = some (.int .i64 ((unpack ys).getD i 0))) := hcell
  have B1 : Hid (Below w.heap.size w w1) := b1
  have F1 : Hid (w.heap.size ≤ g) := f1 g rfl
  have hcm' := hcm
  unfold maxLen at hcm'
  have HTK : Hid (Rd .i64 w1 (.slice (some ⟨g, 0, none⟩) M cap') ((unpack ys).take M)) := by
    have := rd_take (k := .i64) (w := w1) (b := g) (o := 0) (cap := cap') (xs := unpack ys) M (by rw [unpack_length]; omega) (by rw [unpack_length]; exact hlc) hcm (fun i hi => by rw [Nat.zero_add]; exact hcell i hi)
    exact this
  clear ho hg b1 f1 hcell hcm c
  go_wp2_with fail
  go_loop [5] (fun i => ∃ k : Nat, M ≤ k ∧ k < 8 * ys.length ∧ i = .int .i64 k) (fun i => (intOf i).toNat)
  case atStart => exact ⟨8 * ys.length - 1, by omega, by omega, by go_num⟩
  case round =>
    obtain ⟨k, hk1, hk2, rfl⟩ := hrel
    by_cases hkM : M < k
    · have ck : w1.cell? ⟨g, k, none⟩ = some (.int .i64 0) := by rw [HCELL.out k (by rw [unpack_length]; exact hk2), HM1.out.2 k hkM hk2]
      go_wp2_with fail
      go_round
      case rel => exact ⟨k - 1, by omega, by omega, by go_num⟩
      case measure => simp [intOf]; omega
    · obtain rfl : k = M := by omega
      have ck : w1.cell? ⟨g, k, none⟩ = some (.int .i64 1) := by rw [HCELL.out k (by rw [unpack_length]; exact hk2), HM1.out.1]
      go_wp2_with fail
      go_ret2
      exact ⟨.slice (some ⟨g, 0, none⟩) k cap', rfl, HTK.out, B1.out, fun j hj => by simp only [Value.ownBlock, Option.some.injEq] at hj; have := F1.out; omega⟩

/-- The bits ahead of the mark, of bytes that can be read. -/
theorem marked_rd (v : Value) (ys : List Int) (w : World) (h : Rd .u8 w v ys) (hy : By ys) (hl : ys.length ≤ 1048576) :
    Calls Try.prog 37 #[v] w fun e w' => (HasMark ys ∧ ∃ v', e = .returned (.tuple #[v', .bool true]) ∧ Rd .i64 w' v' ((unpack ys).take (markAt ys)) ∧ Below w.heap.size w w' ∧ ∀ k, v'.ownBlock = some k → w.heap.size ≤ k) ∨
      (¬ HasMark ys ∧ e = .returned (.tuple #[.slice none 0 0, .bool false]) ∧ w' = w) := by
  have h0 := h
  obtain ⟨a, cap, rfl, _, hm, _, h⟩ := h
  unfold maxLen at hm
  rcases h with rfl | ⟨b, o, rfl, hc⟩
  · refine (marked_none a cap w).mono ?_
    rintro e w' ⟨rfl, rfl⟩
    exact .inr ⟨fun h => by have := h.1; simp at this, rfl, rfl⟩
  · by_cases hl0 : 0 < ys.length
    · by_cases h00 : ys.getD (ys.length - 1) 0 = 0
      · refine (marked_bad b o cap ys w hl0 (by omega) h00 hc).mono ?_
        rintro e w' ⟨rfl, rfl⟩
        exact .inr ⟨fun h => h.2 h00, rfl, rfl⟩
      · refine (marked_ok b o cap ys w h0 hy ⟨hl0, h00⟩ hl hc).mono ?_
        rintro e w' h
        exact .inl ⟨⟨hl0, h00⟩, h⟩
    · obtain rfl : ys = [] := List.eq_nil_of_length_eq_zero (by omega)
      refine (marked_none _ cap w).mono ?_
      rintro e w' ⟨rfl, rfl⟩
      exact .inr ⟨fun h => by have := h.1; simp at this, rfl, rfl⟩
end Go.Proofs.Ytcmnhgefeffcpaa
