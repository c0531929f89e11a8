import Derived.Test.YtokkippjbagmkaaGreatGLawPTells1
/-
  PackTells: a change within 32 bits side by side among the bytes of a raw form is told: for every bytes, place and mask the law answers true.
-/
namespace Go.Proofs.YtokkippjbagmkaaGreat
open Go.RowKit Pl
set_option linter.unusedVariables false

theorem rd_cutT {w : World} {a : Option Addr} {n c : Nat} {xs : List Int} (h : Rd .u8 w (.slice a n c) xs) (m : Nat) (hm : m ≤ xs.length) : Rd .u8 w (.slice a m c) (xs.take m) := by
  obtain ⟨a', c', e, h1, h2, h3, h4⟩ := h
  simp only [Value.slice.injEq] at e
  obtain ⟨rfl, rfl, rfl⟩ := e
  have hl : (xs.take m).length = m := by rw [List.length_take]; omega
  refine ⟨a, c, by rw [hl], by omega, h2, h3, ?_⟩
  rcases h4 with h | ⟨b, o, rfl, h⟩
  · exact .inl (by rw [h]; simp)
  · refine .inr ⟨b, o, rfl, fun i hi => ?_⟩
    rw [h i (by omega), List.getD_eq_getElem?_getD, List.getD_eq_getElem?_getD, List.getElem?_take, if_pos (by omega)]

theorem packTells_walk (v : Value) (xs : List Int) (at_ : Int) (M : Int) (w : World) (h1 : Rd .u8 w v xs) (hb : By xs) (hold : ∀ k, v.ownBlock = some k → k < w.heap.size) (ha0 : -9223372036854775808 ≤ at_) (ha1 : at_ ≤ 9223372036854775807) (hM0 : 0 ≤ M) (hM1 : M < 4294967296) :
    Calls Tryz.prog 7 #[v, .int .i64 at_, .int .u32 M] w fun e w' => e = .returned (.bool true) ∧ Below w.heap.size w w' := by
  obtain ⟨K, rfl⟩ := Int.eq_ofNat_of_zero_le hM0
  obtain ⟨a, cap, hv, hlc, hcm, _⟩ := id h1
  subst hv
  by_cases hbig : 65536 < xs.length
  · have r := rd_cutT h1 65536 (by omega)
    have hl : (xs.take 65536).length = 65536 := by rw [List.length_take]; omega
    have ho : ∀ k, (Value.slice a 65536 cap).ownBlock = some k → k < w.heap.size := fun k hk => hold k (by cases a with | none => cases hk | some x => exact hk)
    by_cases hneg : at_ < 0
    · exact packTells_d a cap (xs.take 65536) at_ K xs.length w r hl hbig hlc hcm (hb.take _) ho hneg ha0 (by omega)
    · exact packTells_c a cap (xs.take 65536) at_ K xs.length w r hl hbig hlc hcm (hb.take _) ho (by omega) ha1 (by omega)
  · by_cases hneg : at_ < 0
    · exact packTells_b a cap xs at_ K xs.length w h1 rfl (by omega) hb hold hneg ha0 (by omega)
    · exact packTells_a a cap xs at_ K xs.length w h1 rfl (by omega) hb hold (by omega) ha1 (by omega)
end Go.Proofs.YtokkippjbagmkaaGreat
