/-
  One sinks in a heap, one rises.
-/
import Derived.Test.YtcmnhgefeffcpaaHLess
namespace Go.Proofs.Ytcmnhgefeffcpaa
open Go.RowKit Pl Hf
set_option linter.unusedVariables false
set_option maxRecDepth 100000

/-- It has come back. -/
def Ret (e : Ending) : Prop := ∃ u, e = .returned u

abbrev hv (h : Nat) : Value := .iface 130 (.pointer (some ⟨h, 0, none⟩))

theorem Hp.len {w : World} {h : Nat} {v : Value} {ps : List (Int × Int)} (H : Hp w h v ps) : ∃ a cap, v = .slice a ps.length cap := by
  obtain ⟨a, cap, e, _⟩ := H.own.rd
  exact ⟨a, cap, e⟩

theorem Tch.none {S : Nat → Prop} {w w' : World} (h : Tch (fun _ => False) w w') : Tch S w w' := h.mono (fun _ _ e => e.elim)

theorem tLess_at (h : Nat) (v : Value) (ps : List (Int × Int)) (i j : Nat) (x y : Int) (b : Bool) (w : World) (H : Hp w h v ps) (hi : i < ps.length) (hj : j < ps.length) (hx : x = i) (hy : y = j) (hb : ltB (G ps i) (G ps j) = b) :
    Calls Try.prog 98 #[v, .int .i64 x, .int .i64 y] w fun e w' => e = .returned (.bool b) ∧ Hp w' h v ps ∧ Tch (fun _ => False) w w' := by
  subst hx; subst hy; subst hb
  refine (tLess_any v ps i j w H.own hi hj).mono ?_
  rintro e w' ⟨rfl, ht⟩
  exact ⟨rfl, H.tch ht (fun e => e) (fun _ _ e => e), ht⟩

theorem tSwap_at (h : Nat) (v : Value) (ps : List (Int × Int)) (i j : Nat) (x y : Int) (w : World) (H : Hp w h v ps) (hi : i < ps.length) (hj : j < ps.length) (hx : x = i) (hy : y = j) :
    Calls Try.prog 99 #[v, .int .i64 x, .int .i64 y] w fun e w' => e = .returned (.tuple #[]) ∧ Hp w' h v (swp ps i j) ∧ Tch (fun k => v.ownBlock = some k) w w' := by
  subst hx; subst hy
  exact tSwap_any h v ps i j w H hi hj

set_option maxHeartbeats 4000000 in
theorem down_any (h : Nat) (v : Value) (ps : List (Int × Int)) (i0 n : Nat) (w : World) (H : Hp w h v ps) (hn : n ≤ ps.length) (hl : ps.length ≤ 100000) (hi : i0 ≤ n) (hh : Heap ps n (i0 + 1)) :
    Calls Try.prog 78 #[hv h, .int .i64 i0, .int .i64 n] w fun e w' => Ret e ∧ ∃ qs, Hp w' h v qs ∧ qs.Perm ps ∧ (∀ k, n ≤ k → G qs k = G ps k) ∧ Heap qs n i0 ∧ Tch (fun k => v.ownBlock = some k) w w' := by
  have HH : Hid (Hp w h v ps) := H
  have HD : Hid (Dn ps ps n i0 i0) := Dn.start hh hn
  clear H hh
  go_enter Try.func78, Try.ntmps78
  go_wp2_with fail
  go_loopw [7] (fun i wr => ∃ (k : Nat) (qs : List (Int × Int)), k ≤ n ∧ i0 ≤ k ∧ i = .int .i64 k ∧ Hid (Hp wr h v qs) ∧ Hid (Dn ps qs n i0 k) ∧ Hid (Tch (fun k => v.ownBlock = some k) w wr)) (fun i _ => n - (intOf i).toNat)
  case atStart => exact ⟨i0, ps, hi, Nat.le_refl _, rfl, HH, HD, Tch.refl _ _⟩
  case round =>
    obtain ⟨k, qs, hk, hk0, rfl, HP, HD2, HT⟩ := hrel
    clear HH HD
    have hql : qs.length = ps.length := HD2.out.perm.length_eq
    have HQL : Hid (qs.length = ps.length) := hql
    clear hql
    by_cases h1 : 2 * k + 1 < n
    · by_cases h2 : 2 * k + 2 < n
      · cases hb1 : ltB (G qs (2 * k + 2)) (G qs (2 * k + 1)) with
        | false =>
          have HB1 : Hid (ltB (G qs (2 * k + 2)) (G qs (2 * k + 1)) = false) := hb1
          clear hb1
          have HM : Hid (∀ c, Ch k c → c < n → leP (G qs (2 * k + 1)) (G qs c)) := fun c hc hcn => by rcases hc with rfl | rfl; (· exact leP_refl _); (· exact ltB_false.1 HB1.out)
          have hm := meth_less ⟨h, 0, none⟩ v wr HP.out.c0
          go_wp2_with fail
          refine (tLess_at h v qs (2 * k + 2) (2 * k + 1) _ _ false wr HP.out (by rw [HQL.out]; omega) (by rw [HQL.out]; omega) (by omega) (by omega) HB1.out).mono ?_
          rintro e w1 ⟨rfl, hp1, ht1⟩
          have HP1 : Hid (Hp w1 h v qs) := hp1
          have HT1 : Hid (Tch (fun k => v.ownBlock = some k) w w1) := HT.out.trans (S' := fun _ => False) ht1 (fun _ _ e => e.elim)
          clear hp1 ht1 hm HP HT
          cases hb2 : ltB (G qs (2 * k + 1)) (G qs k) with
          | false =>
            have HB2 : Hid (ltB (G qs (2 * k + 1)) (G qs k) = false) := hb2
            clear hb2
            have hm := meth_less ⟨h, 0, none⟩ v w1 HP1.out.c0
            go_wp2_with fail
            refine (tLess_at h v qs (2 * k + 1) k _ _ false w1 HP1.out (by rw [HQL.out]; omega) (by rw [HQL.out]; omega) (by omega) (by omega) HB2.out).mono ?_
            rintro e w2 ⟨rfl, hp2, ht2⟩
            have HP2 : Hid (Hp w2 h v qs) := hp2
            have HT2 : Hid (Tch (fun k => v.ownBlock = some k) w w2) := HT1.out.trans (S' := fun _ => False) ht2 (fun _ _ e => e.elim)
            clear hp2 ht2 hm HP1 HT1
            have HF : Hid (Heap qs n i0) := HD2.out.stop (fun c hc hcn => leP_trans (ltB_false.1 HB2.out) (HM.out c hc hcn))
            go_wp2_with fail
            go_ret
            exact ⟨⟨_, rfl⟩, qs, HP2.out, HD2.out.perm, HD2.out.rest, HF.out, HT2.out⟩
          | true =>
            have HB2 : Hid (ltB (G qs (2 * k + 1)) (G qs k) = true) := hb2
            clear hb2
            have hm := meth_less ⟨h, 0, none⟩ v w1 HP1.out.c0
            go_wp2_with fail
            refine (tLess_at h v qs (2 * k + 1) k _ _ true w1 HP1.out (by rw [HQL.out]; omega) (by rw [HQL.out]; omega) (by omega) (by omega) HB2.out).mono ?_
            rintro e w2 ⟨rfl, hp2, ht2⟩
            have HP2 : Hid (Hp w2 h v qs) := hp2
            have HT2 : Hid (Tch (fun k => v.ownBlock = some k) w w2) := HT1.out.trans (S' := fun _ => False) ht2 (fun _ _ e => e.elim)
            clear hp2 ht2 hm HP1 HT1
            have hm := meth_swap ⟨h, 0, none⟩ v w2 HP2.out.c0
            go_wp2_with fail
            refine (tSwap_at h v qs k (2 * k + 1) _ _ w2 HP2.out (by rw [HQL.out]; omega) (by rw [HQL.out]; omega) (by omega) (by omega)).mono ?_
            rintro e w3 ⟨rfl, hp3, ht3⟩
            have HP3 : Hid (Hp w3 h v (swp qs k (2 * k + 1))) := hp3
            have HT3 : Hid (Tch (fun k => v.ownBlock = some k) w w3) := HT2.out.trans ht3 (fun _ _ e => e)
            have HD3 : Hid (Dn ps (swp qs k (2 * k + 1)) n i0 (2 * k + 1)) := HD2.out.sink (by unfold Ch; omega) (by omega) HM.out (ltB_iff.1 HB2.out)
            clear hp3 ht3 hm HP2 HT2 HD2
            go_wp2_with fail
            go_roundw
            case rel => exact ⟨2 * k + 1, swp qs k (2 * k + 1), by omega, by omega, by go_num, HP3, HD3, HT3⟩
            case measure => simp [intOf]; omega
        | true =>
          have HB1 : Hid (ltB (G qs (2 * k + 2)) (G qs (2 * k + 1)) = true) := hb1
          clear hb1
          have HM : Hid (∀ c, Ch k c → c < n → leP (G qs (2 * k + 2)) (G qs c)) := fun c hc hcn => by rcases hc with rfl | rfl; (· exact leP_of_lt (ltB_iff.1 HB1.out)); (· exact leP_refl _)
          have hm := meth_less ⟨h, 0, none⟩ v wr HP.out.c0
          go_wp2_with fail
          refine (tLess_at h v qs (2 * k + 2) (2 * k + 1) _ _ true wr HP.out (by rw [HQL.out]; omega) (by rw [HQL.out]; omega) (by omega) (by omega) HB1.out).mono ?_
          rintro e w1 ⟨rfl, hp1, ht1⟩
          have HP1 : Hid (Hp w1 h v qs) := hp1
          have HT1 : Hid (Tch (fun k => v.ownBlock = some k) w w1) := HT.out.trans (S' := fun _ => False) ht1 (fun _ _ e => e.elim)
          clear hp1 ht1 hm HP HT
          cases hb2 : ltB (G qs (2 * k + 2)) (G qs k) with
          | false =>
            have HB2 : Hid (ltB (G qs (2 * k + 2)) (G qs k) = false) := hb2
            clear hb2
            have hm := meth_less ⟨h, 0, none⟩ v w1 HP1.out.c0
            go_wp2_with fail
            refine (tLess_at h v qs (2 * k + 2) k _ _ false w1 HP1.out (by rw [HQL.out]; omega) (by rw [HQL.out]; omega) (by omega) (by omega) HB2.out).mono ?_
            rintro e w2 ⟨rfl, hp2, ht2⟩
            have HP2 : Hid (Hp w2 h v qs) := hp2
            have HT2 : Hid (Tch (fun k => v.ownBlock = some k) w w2) := HT1.out.trans (S' := fun _ => False) ht2 (fun _ _ e => e.elim)
            clear hp2 ht2 hm HP1 HT1
            have HF : Hid (Heap qs n i0) := HD2.out.stop (fun c hc hcn => leP_trans (ltB_false.1 HB2.out) (HM.out c hc hcn))
            go_wp2_with fail
            go_ret
            exact ⟨⟨_, rfl⟩, qs, HP2.out, HD2.out.perm, HD2.out.rest, HF.out, HT2.out⟩
          | true =>
            have HB2 : Hid (ltB (G qs (2 * k + 2)) (G qs k) = true) := hb2
            clear hb2
            have hm := meth_less ⟨h, 0, none⟩ v w1 HP1.out.c0
            go_wp2_with fail
            refine (tLess_at h v qs (2 * k + 2) k _ _ true w1 HP1.out (by rw [HQL.out]; omega) (by rw [HQL.out]; omega) (by omega) (by omega) HB2.out).mono ?_
            rintro e w2 ⟨rfl, hp2, ht2⟩
            have HP2 : Hid (Hp w2 h v qs) := hp2
            have HT2 : Hid (Tch (fun k => v.ownBlock = some k) w w2) := HT1.out.trans (S' := fun _ => False) ht2 (fun _ _ e => e.elim)
            clear hp2 ht2 hm HP1 HT1
            have hm := meth_swap ⟨h, 0, none⟩ v w2 HP2.out.c0
            go_wp2_with fail
            refine (tSwap_at h v qs k (2 * k + 2) _ _ w2 HP2.out (by rw [HQL.out]; omega) (by rw [HQL.out]; omega) (by omega) (by omega)).mono ?_
            rintro e w3 ⟨rfl, hp3, ht3⟩
            have HP3 : Hid (Hp w3 h v (swp qs k (2 * k + 2))) := hp3
            have HT3 : Hid (Tch (fun k => v.ownBlock = some k) w w3) := HT2.out.trans ht3 (fun _ _ e => e)
            have HD3 : Hid (Dn ps (swp qs k (2 * k + 2)) n i0 (2 * k + 2)) := HD2.out.sink (by unfold Ch; omega) (by omega) HM.out (ltB_iff.1 HB2.out)
            clear hp3 ht3 hm HP2 HT2 HD2
            go_wp2_with fail
            go_roundw
            case rel => exact ⟨2 * k + 2, swp qs k (2 * k + 2), by omega, by omega, by go_num, HP3, HD3, HT3⟩
            case measure => simp [intOf]; omega
      · have HM : Hid (∀ c, Ch k c → c < n → leP (G qs (2 * k + 1)) (G qs c)) := fun c hc hcn => by rcases hc with rfl | rfl; (· exact leP_refl _); (· omega)
        cases hb2 : ltB (G qs (2 * k + 1)) (G qs k) with
        | false =>
          have HB2 : Hid (ltB (G qs (2 * k + 1)) (G qs k) = false) := hb2
          clear hb2
          have hm := meth_less ⟨h, 0, none⟩ v wr HP.out.c0
          go_wp2_with fail
          refine (tLess_at h v qs (2 * k + 1) k _ _ false wr HP.out (by rw [HQL.out]; omega) (by rw [HQL.out]; omega) (by omega) (by omega) HB2.out).mono ?_
          rintro e w2 ⟨rfl, hp2, ht2⟩
          have HP2 : Hid (Hp w2 h v qs) := hp2
          have HT2 : Hid (Tch (fun k => v.ownBlock = some k) w w2) := HT.out.trans (S' := fun _ => False) ht2 (fun _ _ e => e.elim)
          clear hp2 ht2 hm HP HT
          have HF : Hid (Heap qs n i0) := HD2.out.stop (fun c hc hcn => leP_trans (ltB_false.1 HB2.out) (HM.out c hc hcn))
          go_wp2_with fail
          go_ret
          exact ⟨⟨_, rfl⟩, qs, HP2.out, HD2.out.perm, HD2.out.rest, HF.out, HT2.out⟩
        | true =>
          have HB2 : Hid (ltB (G qs (2 * k + 1)) (G qs k) = true) := hb2
          clear hb2
          have hm := meth_less ⟨h, 0, none⟩ v wr HP.out.c0
          go_wp2_with fail
          refine (tLess_at h v qs (2 * k + 1) k _ _ true wr HP.out (by rw [HQL.out]; omega) (by rw [HQL.out]; omega) (by omega) (by omega) HB2.out).mono ?_
          rintro e w2 ⟨rfl, hp2, ht2⟩
          have HP2 : Hid (Hp w2 h v qs) := hp2
          have HT2 : Hid (Tch (fun k => v.ownBlock = some k) w w2) := HT.out.trans (S' := fun _ => False) ht2 (fun _ _ e => e.elim)
          clear hp2 ht2 hm HP HT
          have hm := meth_swap ⟨h, 0, none⟩ v w2 HP2.out.c0
          go_wp2_with fail
          refine (tSwap_at h v qs k (2 * k + 1) _ _ w2 HP2.out (by rw [HQL.out]; omega) (by rw [HQL.out]; omega) (by omega) (by omega)).mono ?_
          rintro e w3 ⟨rfl, hp3, ht3⟩
          have HP3 : Hid (Hp w3 h v (swp qs k (2 * k + 1))) := hp3
          have HT3 : Hid (Tch (fun k => v.ownBlock = some k) w w3) := HT2.out.trans ht3 (fun _ _ e => e)
          have HD3 : Hid (Dn ps (swp qs k (2 * k + 1)) n i0 (2 * k + 1)) := HD2.out.sink (by unfold Ch; omega) (by omega) HM.out (ltB_iff.1 HB2.out)
          clear hp3 ht3 hm HP2 HT2 HD2
          go_wp2_with fail
          go_roundw
          case rel => exact ⟨2 * k + 1, swp qs k (2 * k + 1), by omega, by omega, by go_num, HP3, HD3, HT3⟩
          case measure => simp [intOf]; omega
    · have HF : Hid (Heap qs n i0) := HD2.out.stop (fun c hc hcn => by unfold Ch at hc; omega)
      go_wp2_with fail
      go_ret
      exact ⟨⟨_, rfl⟩, qs, HP.out, HD2.out.perm, HD2.out.rest, HF.out, HT.out⟩
end Go.Proofs.Ytcmnhgefeffcpaa
