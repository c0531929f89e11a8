/-
  One sinks among the free numbers, one rises.
-/
import Derived.Test.YtamgogkkcbeaaaaAFr
namespace Go.Proofs.Ytamgogkkcbeaaaa
open Go.RowKit Ah
set_option linter.unusedVariables false
set_option maxRecDepth 100000

abbrev hv (F : Fb) : Value := .iface 61 (fp F)

theorem meth_len (a : Addr) (w : World) : (method 189 61 (.pointer (some a)) "Len").run Try.prog w = .ok (36, .pointer (some a)) w := by kernel_rfl
theorem meth_less (a : Addr) (w : World) : (method 189 61 (.pointer (some a)) "Less").run Try.prog w = .ok (65, .pointer (some a)) w := by kernel_rfl
theorem meth_swap (a : Addr) (w : World) : (method 189 61 (.pointer (some a)) "Swap").run Try.prog w = .ok (68, .pointer (some a)) w := by kernel_rfl
theorem meth_pop (a : Addr) (w : World) : (method 189 61 (.pointer (some a)) "Pop").run Try.prog w = .ok (66, .pointer (some a)) w := by kernel_rfl
theorem meth_push (a : Addr) (w : World) : (method 189 61 (.pointer (some a)) "Push").run Try.prog w = .ok (67, .pointer (some a)) w := by kernel_rfl

/-- What down answers: whether it has moved; if so all is a heap, if not all but for the way up. -/
def DnR (e : Ending) (qs : List Int) (n i0 : Nat) : Prop := (e = .returned (.bool true) ∧ Heap qs n) ∨ (e = .returned (.bool false) ∧ Ux qs n i0)

theorem dnR_of {ps qs : List Int} {n i0 k : Nat} {b : Bool} (h : Dn ps qs n i0 k) (hc : ∀ c, Ch k c → c < n → G qs k ≤ G qs c) (hb : b = decide (i0 < k)) : DnR (.returned (.bool b)) qs n i0 := by
  obtain ⟨h1, h2⟩ := h.stop hc
  subst hb
  by_cases e : i0 < k
  · left; exact ⟨by simp [e], h1 e⟩
  · right; exact ⟨by simp [e], h2 e⟩

theorem Ah.lt_of_dec {a b : Int} (h : decide (a < b) = true) : a < b := of_decide_eq_true h
theorem Ah.le_of_dec {a b : Int} (h : decide (a < b) = false) : b ≤ a := by have := of_decide_eq_false h; omega

set_option maxHeartbeats 4000000 in
theorem down_any (F : Fb) (v u : Value) (L : Nat) (ps : List Int) (i0 n : Nat) (w : World) (H : Fr w F v u L ps) (hn : n ≤ ps.length) (hl : ps.length ≤ 100000) (hi : i0 ≤ n) (hh : Hx ps n i0) :
    Calls Try.prog 46 #[hv F, .int .i64 i0, .int .i64 n] w fun e w' => ∃ qs, DnR e qs n i0 ∧ Fr w' F v u L qs ∧ qs.Perm ps ∧ (∀ k, n ≤ k → G qs k = G ps k) ∧ Tch (fun k => v.ownBlock = some k ∨ u.ownBlock = some k) w w' := by
  have HH : Hid (Fr w F v u L ps) := H
  have HD : Hid (Dn ps ps n i0 i0) := Dn.start hh hn
  clear H hh
  go_enter Try.func46, Try.ntmps46
  go_wp2_with fail
  go_loopw [7] (fun i wr => ∃ (k : Nat) (qs : List Int), k ≤ n ∧ i0 ≤ k ∧ i = .int .i64 k ∧ Hid (Fr wr F v u L qs) ∧ Hid (Dn ps qs n i0 k) ∧ Hid (Tch (fun k => v.ownBlock = some k ∨ u.ownBlock = some k) w wr)) (fun i _ => n - (intOf i).toNat)
  case atStart => exact ⟨i0, ps, hi, Nat.le_refl _, rfl, HH, HD, Tch.refl _ _⟩
  case round =>
    obtain ⟨k, qs, hk, hk0, rfl, HP, HD2, HT⟩ := hrel
    clear HH HD
    have hql : qs.length = ps.length := HD2.out.perm.length_eq
    have HQL : Hid (qs.length = ps.length) := hql
    clear hql
    by_cases h1 : 2 * k + 1 < n
    · by_cases h2 : 2 * k + 2 < n
      · cases hb1 : decide (G qs (2 * k + 2) < G qs (2 * k + 1)) with
        | false =>
          have HB1 : Hid (decide (G qs (2 * k + 2) < G qs (2 * k + 1)) = false) := hb1
          clear hb1
          have HM : Hid (∀ c, Ch k c → c < n → G qs (2 * k + 1) ≤ G qs c) := fun c hc hcn => by rcases hc with rfl | rfl; (· exact Int.le_refl _); (· exact Ah.le_of_dec HB1.out)
          have hm := meth_less ⟨F.b, F.pre.length, none⟩ wr
          go_wp2_with fail
          refine (fLess_any F v u L qs (2 * k + 2) (2 * k + 1) _ _ false wr HP.out (by rw [HQL.out]; omega) (by rw [HQL.out]; omega) (by omega) (by omega) HB1.out).mono ?_
          rintro e w1 ⟨rfl, hp, ht⟩
          have HP1 : Hid (Fr w1 F v u L qs) := hp
          have HT1 : Hid (Tch (fun k => v.ownBlock = some k ∨ u.ownBlock = some k) w w1) := HT.out.trans (S' := fun _ => False) ht (fun _ _ e => e.elim)
          clear hp ht hm HP HT
          cases hb2 : decide (G qs (2 * k + 1) < G qs k) with
          | false =>
            have HB2 : Hid (decide (G qs (2 * k + 1) < G qs k) = false) := hb2
            clear hb2
            have hm := meth_less ⟨F.b, F.pre.length, none⟩ w1
            go_wp2_with fail
            refine (fLess_any F v u L qs (2 * k + 1) (k) _ _ false w1 HP1.out (by rw [HQL.out]; omega) (by rw [HQL.out]; omega) (by omega) (by omega) HB2.out).mono ?_
            rintro e w2 ⟨rfl, hp, ht⟩
            have HP2 : Hid (Fr w2 F v u L qs) := hp
            have HT2 : Hid (Tch (fun k => v.ownBlock = some k ∨ u.ownBlock = some k) w w2) := HT1.out.trans (S' := fun _ => False) ht (fun _ _ e => e.elim)
            clear hp ht hm HP1 HT1
            have HF : Hid (∀ c, Ch k c → c < n → G qs k ≤ G qs c) := fun c hc hcn => Int.le_trans (Ah.le_of_dec HB2.out) (HM.out c hc hcn)
            go_wp2_with fail
            go_ret
            exact ⟨qs, dnR_of HD2.out HF.out (by simp), HP2.out, HD2.out.perm, HD2.out.rest, HT2.out⟩
          | true =>
            have HB2 : Hid (decide (G qs (2 * k + 1) < G qs k) = true) := hb2
            clear hb2
            have hm := meth_less ⟨F.b, F.pre.length, none⟩ w1
            go_wp2_with fail
            refine (fLess_any F v u L qs (2 * k + 1) (k) _ _ true w1 HP1.out (by rw [HQL.out]; omega) (by rw [HQL.out]; omega) (by omega) (by omega) HB2.out).mono ?_
            rintro e w2 ⟨rfl, hp, ht⟩
            have HP2 : Hid (Fr w2 F v u L qs) := hp
            have HT2 : Hid (Tch (fun k => v.ownBlock = some k ∨ u.ownBlock = some k) w w2) := HT1.out.trans (S' := fun _ => False) ht (fun _ _ e => e.elim)
            clear hp ht hm HP1 HT1
            have hm := meth_swap ⟨F.b, F.pre.length, none⟩ w2
            go_wp2_with fail
            refine (fSwap_any F v u L qs k (2 * k + 1) _ _ w2 HP2.out (by rw [HQL.out]; omega) (by rw [HQL.out]; omega) (by omega) (by omega)).mono ?_
            rintro e w3 ⟨rfl, hp3, ht3⟩
            have HP3 : Hid (Fr w3 F v u L (swp qs k (2 * k + 1))) := hp3
            have HT3 : Hid (Tch (fun k => v.ownBlock = some k ∨ u.ownBlock = some k) w w3) := HT2.out.trans ht3 (fun _ _ e => e)
            have HD3 : Hid (Dn ps (swp qs k (2 * k + 1)) n i0 (2 * k + 1)) := HD2.out.sink (by unfold Ch; omega) (by omega) HM.out (Ah.lt_of_dec HB2.out)
            clear hp3 ht3 hm HP2 HT2 HD2
            go_wp2_with fail
            go_roundw
            case rel => exact ⟨2 * k + 1, swp qs k (2 * k + 1), by omega, by omega, by go_num, HP3, HD3, HT3⟩
            case measure => simp [intOf]; omega
        | true =>
          have HB1 : Hid (decide (G qs (2 * k + 2) < G qs (2 * k + 1)) = true) := hb1
          clear hb1
          have HM : Hid (∀ c, Ch k c → c < n → G qs (2 * k + 2) ≤ G qs c) := fun c hc hcn => by rcases hc with rfl | rfl; (· exact Int.le_of_lt (Ah.lt_of_dec HB1.out)); (· exact Int.le_refl _)
          have hm := meth_less ⟨F.b, F.pre.length, none⟩ wr
          go_wp2_with fail
          refine (fLess_any F v u L qs (2 * k + 2) (2 * k + 1) _ _ true wr HP.out (by rw [HQL.out]; omega) (by rw [HQL.out]; omega) (by omega) (by omega) HB1.out).mono ?_
          rintro e w1 ⟨rfl, hp, ht⟩
          have HP1 : Hid (Fr w1 F v u L qs) := hp
          have HT1 : Hid (Tch (fun k => v.ownBlock = some k ∨ u.ownBlock = some k) w w1) := HT.out.trans (S' := fun _ => False) ht (fun _ _ e => e.elim)
          clear hp ht hm HP HT
          cases hb2 : decide (G qs (2 * k + 2) < G qs k) with
          | false =>
            have HB2 : Hid (decide (G qs (2 * k + 2) < G qs k) = false) := hb2
            clear hb2
            have hm := meth_less ⟨F.b, F.pre.length, none⟩ w1
            go_wp2_with fail
            refine (fLess_any F v u L qs (2 * k + 2) (k) _ _ false w1 HP1.out (by rw [HQL.out]; omega) (by rw [HQL.out]; omega) (by omega) (by omega) HB2.out).mono ?_
            rintro e w2 ⟨rfl, hp, ht⟩
            have HP2 : Hid (Fr w2 F v u L qs) := hp
            have HT2 : Hid (Tch (fun k => v.ownBlock = some k ∨ u.ownBlock = some k) w w2) := HT1.out.trans (S' := fun _ => False) ht (fun _ _ e => e.elim)
            clear hp ht hm HP1 HT1
            have HF : Hid (∀ c, Ch k c → c < n → G qs k ≤ G qs c) := fun c hc hcn => Int.le_trans (Ah.le_of_dec HB2.out) (HM.out c hc hcn)
            go_wp2_with fail
            go_ret
            exact ⟨qs, dnR_of HD2.out HF.out (by simp), HP2.out, HD2.out.perm, HD2.out.rest, HT2.out⟩
          | true =>
            have HB2 : Hid (decide (G qs (2 * k + 2) < G qs k) = true) := hb2
            clear hb2
            have hm := meth_less ⟨F.b, F.pre.length, none⟩ w1
            go_wp2_with fail
            refine (fLess_any F v u L qs (2 * k + 2) (k) _ _ true w1 HP1.out (by rw [HQL.out]; omega) (by rw [HQL.out]; omega) (by omega) (by omega) HB2.out).mono ?_
            rintro e w2 ⟨rfl, hp, ht⟩
            have HP2 : Hid (Fr w2 F v u L qs) := hp
            have HT2 : Hid (Tch (fun k => v.ownBlock = some k ∨ u.ownBlock = some k) w w2) := HT1.out.trans (S' := fun _ => False) ht (fun _ _ e => e.elim)
            clear hp ht hm HP1 HT1
            have hm := meth_swap ⟨F.b, F.pre.length, none⟩ w2
            go_wp2_with fail
            refine (fSwap_any F v u L qs k (2 * k + 2) _ _ w2 HP2.out (by rw [HQL.out]; omega) (by rw [HQL.out]; omega) (by omega) (by omega)).mono ?_
            rintro e w3 ⟨rfl, hp3, ht3⟩
            have HP3 : Hid (Fr w3 F v u L (swp qs k (2 * k + 2))) := hp3
            have HT3 : Hid (Tch (fun k => v.ownBlock = some k ∨ u.ownBlock = some k) w w3) := HT2.out.trans ht3 (fun _ _ e => e)
            have HD3 : Hid (Dn ps (swp qs k (2 * k + 2)) n i0 (2 * k + 2)) := HD2.out.sink (by unfold Ch; omega) (by omega) HM.out (Ah.lt_of_dec HB2.out)
            clear hp3 ht3 hm HP2 HT2 HD2
            go_wp2_with fail
            go_roundw
            case rel => exact ⟨2 * k + 2, swp qs k (2 * k + 2), by omega, by omega, by go_num, HP3, HD3, HT3⟩
            case measure => simp [intOf]; omega
      · have HM : Hid (∀ c, Ch k c → c < n → G qs (2 * k + 1) ≤ G qs c) := fun c hc hcn => by rcases hc with rfl | rfl; (· exact Int.le_refl _); (· omega)
        cases hb2 : decide (G qs (2 * k + 1) < G qs k) with
        | false =>
          have HB2 : Hid (decide (G qs (2 * k + 1) < G qs k) = false) := hb2
          clear hb2
          have hm := meth_less ⟨F.b, F.pre.length, none⟩ wr
          go_wp2_with fail
          refine (fLess_any F v u L qs (2 * k + 1) (k) _ _ false wr HP.out (by rw [HQL.out]; omega) (by rw [HQL.out]; omega) (by omega) (by omega) HB2.out).mono ?_
          rintro e w2 ⟨rfl, hp, ht⟩
          have HP2 : Hid (Fr w2 F v u L qs) := hp
          have HT2 : Hid (Tch (fun k => v.ownBlock = some k ∨ u.ownBlock = some k) w w2) := HT.out.trans (S' := fun _ => False) ht (fun _ _ e => e.elim)
          clear hp ht hm HP HT
          have HF : Hid (∀ c, Ch k c → c < n → G qs k ≤ G qs c) := fun c hc hcn => Int.le_trans (Ah.le_of_dec HB2.out) (HM.out c hc hcn)
          go_wp2_with fail
          go_ret
          exact ⟨qs, dnR_of HD2.out HF.out (by simp), HP2.out, HD2.out.perm, HD2.out.rest, HT2.out⟩
        | true =>
          have HB2 : Hid (decide (G qs (2 * k + 1) < G qs k) = true) := hb2
          clear hb2
          have hm := meth_less ⟨F.b, F.pre.length, none⟩ wr
          go_wp2_with fail
          refine (fLess_any F v u L qs (2 * k + 1) (k) _ _ true wr HP.out (by rw [HQL.out]; omega) (by rw [HQL.out]; omega) (by omega) (by omega) HB2.out).mono ?_
          rintro e w2 ⟨rfl, hp, ht⟩
          have HP2 : Hid (Fr w2 F v u L qs) := hp
          have HT2 : Hid (Tch (fun k => v.ownBlock = some k ∨ u.ownBlock = some k) w w2) := HT.out.trans (S' := fun _ => False) ht (fun _ _ e => e.elim)
          clear hp ht hm HP HT
          have hm := meth_swap ⟨F.b, F.pre.length, none⟩ w2
          go_wp2_with fail
          refine (fSwap_any F v u L qs k (2 * k + 1) _ _ w2 HP2.out (by rw [HQL.out]; omega) (by rw [HQL.out]; omega) (by omega) (by omega)).mono ?_
          rintro e w3 ⟨rfl, hp3, ht3⟩
          have HP3 : Hid (Fr w3 F v u L (swp qs k (2 * k + 1))) := hp3
          have HT3 : Hid (Tch (fun k => v.ownBlock = some k ∨ u.ownBlock = some k) w w3) := HT2.out.trans ht3 (fun _ _ e => e)
          have HD3 : Hid (Dn ps (swp qs k (2 * k + 1)) n i0 (2 * k + 1)) := HD2.out.sink (by unfold Ch; omega) (by omega) HM.out (Ah.lt_of_dec HB2.out)
          clear hp3 ht3 hm HP2 HT2 HD2
          go_wp2_with fail
          go_roundw
          case rel => exact ⟨2 * k + 1, swp qs k (2 * k + 1), by omega, by omega, by go_num, HP3, HD3, HT3⟩
          case measure => simp [intOf]; omega
    · have HF : Hid (∀ c, Ch k c → c < n → G qs k ≤ G qs c) := fun c hc hcn => by unfold Ch at hc; omega
      go_wp2_with fail
      go_ret
      exact ⟨qs, dnR_of HD2.out HF.out (by simp), HP.out, HD2.out.perm, HD2.out.rest, HT.out⟩

set_option maxHeartbeats 4000000 in
theorem up_any (F : Fb) (v u : Value) (L : Nat) (ps : List Int) (n j0 : Nat) (w : World) (H : Fr w F v u L ps) (hl : ps.length ≤ 100000) (hh : Up ps ps n j0) :
    Calls Try.prog 47 #[hv F, .int .i64 j0] w fun e w' => e = .returned (.tuple #[]) ∧ ∃ qs, Fr w' F v u L qs ∧ qs.Perm ps ∧ (∀ k, n ≤ k → G qs k = G ps k) ∧ Heap qs n ∧ Tch (fun k => v.ownBlock = some k ∨ u.ownBlock = some k) w w' := by
  have HH : Hid (Fr w F v u L ps) := H
  have HD : Hid (Up ps ps n j0) := hh
  have hj0 : j0 ≤ n := by rcases hh.jn with e | e <;> omega
  have hnl := hh.nl
  clear H hh
  go_enter Try.func47, Try.ntmps47
  go_wp2_with fail
  go_loopw [1] (fun i wr => ∃ (k : Nat) (qs : List Int), k ≤ n ∧ i = .int .i64 k ∧ Hid (Fr wr F v u L qs) ∧ Hid (Up ps qs n k) ∧ Hid (Tch (fun k => v.ownBlock = some k ∨ u.ownBlock = some k) w wr)) (fun i _ => (intOf i).toNat)
  case atStart => exact ⟨j0, ps, hj0, rfl, HH, HD, Tch.refl _ _⟩
  case round =>
    obtain ⟨k, qs, hk, rfl, HP, HU, HT⟩ := hrel
    clear HH HD
    have HQL : Hid (qs.length = ps.length) := HU.out.perm.length_eq
    by_cases h0 : k = 0
    · subst h0
      have HF : Hid (Heap qs n) := HU.out.top
      go_wp2_with fail
      go_end0
      exact ⟨rfl, qs, HP.out, HU.out.perm, HU.out.rest, HF.out, HT.out⟩
    · have hkn : k < n := by rcases HU.out.jn with e | e <;> omega
      obtain ⟨p, hp, hpe⟩ : ∃ p : Nat, Ch p k ∧ ((k : Int) - 1).tdiv 2 = p := ⟨(k - 1) / 2, by unfold Ch; omega, by rw [show ((k : Int) - 1) = ((k - 1 : Nat) : Int) by omega]; exact (Int.ofNat_tdiv _ _).symm⟩
      have HC : Hid (Ch p k) := hp
      have hpk : p < k := by unfold Ch at hp; omega
      have hne : ((p : Int) == (k : Int)) = false := by simp; omega
      clear hp
      cases hb : decide (G qs k < G qs p) with
      | false =>
        have HB : Hid (decide (G qs k < G qs p) = false) := hb
        clear hb
        have hm := meth_less ⟨F.b, F.pre.length, none⟩ wr
        go_wp2_with fail
        refine (fLess_any F v u L qs k p _ _ false wr HP.out (by rw [HQL.out]; omega) (by rw [HQL.out]; omega) (by omega) (by omega) HB.out).mono ?_
        rintro e w2 ⟨rfl, hp2, ht2⟩
        have HP2 : Hid (Fr w2 F v u L qs) := hp2
        have HT2 : Hid (Tch (fun k => v.ownBlock = some k ∨ u.ownBlock = some k) w w2) := HT.out.trans (S' := fun _ => False) ht2 (fun _ _ e => e.elim)
        clear hp2 ht2 hm HP HT
        have HF : Hid (Heap qs n) := HU.out.stop HC.out (of_decide_eq_false HB.out)
        go_wp2_with fail
        go_end0
        exact ⟨rfl, qs, HP2.out, HU.out.perm, HU.out.rest, HF.out, HT2.out⟩
      | true =>
        have HB : Hid (decide (G qs k < G qs p) = true) := hb
        clear hb
        have hm := meth_less ⟨F.b, F.pre.length, none⟩ wr
        go_wp2_with fail
        refine (fLess_any F v u L qs k p _ _ true wr HP.out (by rw [HQL.out]; omega) (by rw [HQL.out]; omega) (by omega) (by omega) HB.out).mono ?_
        rintro e w2 ⟨rfl, hp2, ht2⟩
        have HP2 : Hid (Fr w2 F v u L qs) := hp2
        have HT2 : Hid (Tch (fun k => v.ownBlock = some k ∨ u.ownBlock = some k) w w2) := HT.out.trans (S' := fun _ => False) ht2 (fun _ _ e => e.elim)
        clear hp2 ht2 hm HP HT
        have hm := meth_swap ⟨F.b, F.pre.length, none⟩ w2
        go_wp2_with fail
        refine (fSwap_any F v u L qs p k _ _ w2 HP2.out (by rw [HQL.out]; omega) (by rw [HQL.out]; omega) (by omega) (by omega)).mono ?_
        rintro e w3 ⟨rfl, hp3, ht3⟩
        have HP3 : Hid (Fr w3 F v u L (swp qs p k)) := hp3
        have HT3 : Hid (Tch (fun k => v.ownBlock = some k ∨ u.ownBlock = some k) w w3) := HT2.out.trans ht3 (fun _ _ e => e)
        have HD3 : Hid (Up ps (swp qs p k) n p) := HU.out.rise HC.out (of_decide_eq_true HB.out)
        clear hp3 ht3 hm HP2 HT2 HU
        go_wp2_with fail
        go_roundw
        case rel => exact ⟨p, swp qs p k, by omega, by first | rfl | go_num, HP3, HD3, HT3⟩
        case measure => simp [intOf]; omega
end Go.Proofs.Ytamgogkkcbeaaaa
