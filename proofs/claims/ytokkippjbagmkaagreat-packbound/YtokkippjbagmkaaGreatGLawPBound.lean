import Derived.Test.YtokkippjbagmkaaGreatGPkLv
/-
  PackBound: what is unpacked is never more than was allowed: for every bytes and bound the law answers true.
-/
namespace Go.Proofs.YtokkippjbagmkaaGreat
open Go.RowKit Pl
set_option linter.unusedVariables false
set_option maxRecDepth 100000
set_option linter.unusedSimpArgs false

theorem bodyS_len (σ : Option (List Int)) (x : Int) (n : Nat) : (bodyS σ x n).2.isSome = true → (bodyS σ x n).1.length ≤ n := by
  intro h
  unfold bodyS at h ⊢
  split
  · exact bytesS_len σ n
  · rename_i h0
    rw [if_neg h0] at h
    split
    · simp
    · rename_i h1
      rw [if_neg h1] at h
      simp only at h ⊢
      have hc := askS_some h
      simp only [Bool.and_eq_true, beq_iff_eq] at hc
      omega

theorem sumS_some {σ : Option (List Int)} (h : (sumS σ).2.isSome = true) : σ.isSome = true := by
  cases σ with
  | none => simp [sumS, bytesS] at h
  | some l => rfl

theorem unpS_len (ys : List Int) (most : Int) : ((unpS ys most).1 = 0 ∧ ((unpS ys most).2.length : Int) ≤ most) ∨ ((unpS ys most).1 ≠ 0 ∧ (unpS ys most).2 = []) := by
  unfold unpS
  split
  · exact .inr ⟨by decide, rfl⟩
  · rename_i hm
    unfold unpT
    split
    · exact .inr ⟨by decide, rfl⟩
    · split
      · exact .inr ⟨by decide, rfl⟩
      · rename_i hb
        split
        · exact .inr ⟨by decide, rfl⟩
        · rename_i hs
          split
          · refine .inl ⟨rfl, ?_⟩
            have h1 : (sumS (bodyS (numS (oneS (some ys)).2).2 (oneS (some ys)).1 (numS (oneS (some ys)).2).1.toNat).2).2.isSome = true := by
              cases h2 : (sumS (bodyS (numS (oneS (some ys)).2).2 (oneS (some ys)).1 (numS (oneS (some ys)).2).1.toNat).2).2 with
              | none => exact absurd (.inl (by rw [h2]; rfl)) hs
              | some l => rfl
            have := bodyS_len _ _ _ (sumS_some h1)
            simp only
            omega
          · exact .inr ⟨by decide, rfl⟩

set_option maxHeartbeats 1000000 in
theorem packBound_walk (v : Value) (ds : List Int) (most : Int) (w : World) (hr : Rd .u8 w v ds) (hy : By ds) (hl : ds.length ≤ 140737488355328) (hold : ∀ k, v.ownBlock = some k → k < w.heap.size) :
    Calls Tryz.prog 6 #[v, .int .i64 most] w fun e w' => e = .returned (.bool true) ∧ Below w.heap.size w w' := by
  have HU : Hid (Calls Tryz.prog 13 #[v, .int .i64 most] w fun e w' => UPost (unpS ds most) w e w') := unpack_any v ds most w hr hy hl hold
  have hlen := unpS_len ds most
  obtain ⟨R, hR⟩ : ∃ R, unpS ds most = R := ⟨_, rfl⟩
  rw [hR] at HU hlen
  obtain ⟨E, xs⟩ := R
  clear hR hr hy hl hold
  simp only at hlen
  go_enter Tryz.func6, Tryz.ntmps6
  go_wp2_with fail
  refine HU.out.mono ?_
  clear HU
  rintro e w1 ⟨rv, rfl, hn, hb⟩
  have B1 : Hid (Below w.heap.size w w1) := hb
  obtain ⟨a, cap, rfl, _⟩ := hn.rd
  simp only
  clear hb hn
  rcases hlen with ⟨rfl, hle⟩ | ⟨hE, rfl⟩
  · go_wp2_with fail
    refine (lives_anyP _).mono ?_
    rintro e w2 ⟨rfl, hb2⟩
    go_wp2_with fail
    go_ret
    exact ⟨rfl, B1.out.trans (hb2.mono B1.out.size)⟩
  · have hE2 : (E == 0) = false := by rw [beq_eq_false_iff_ne]; exact hE
    go_wp2_with fail
    refine (lives_anyP _).mono ?_
    rintro e w2 ⟨rfl, hb2⟩
    go_wp2_with fail
    go_ret
    exact ⟨rfl, B1.out.trans (hb2.mono B1.out.size)⟩
end Go.Proofs.YtokkippjbagmkaaGreat
