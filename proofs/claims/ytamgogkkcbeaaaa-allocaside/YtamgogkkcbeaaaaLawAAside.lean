/-
  AllocAside: what is set aside is there.
-/
import Derived.Test.YtamgogkkcbeaaaaALaw
namespace Go.Proofs.Ytamgogkkcbeaaaa
open Go.RowKit Ah
set_option linter.unusedVariables false
set_option maxRecDepth 100000

set_option maxHeartbeats 4000000 in
theorem allocAside_walk (a : Option Addr) (n cap : Nat) (xs : List (Int × Int)) (m : Int) (v : Value) (ms : List Int) (w : World) (hr : RdA w (.slice a n cap) xs) (hm : (Lit.int .i64 m).wf = true) (hv : Rd .i64 w v ms) :
    Calls Try.prog 4 #[.slice a n cap, .int .i64 m, v] w fun e w' => e = .returned (.bool true) ∧ Below w.heap.size w w' := by
  obtain ⟨_, _, he, hlc, hcm, _⟩ := id hr
  have hnl : n = xs.length := by cases he; rfl
  have HNL : Hid (n = xs.length) := hnl
  have hn63 : n ≤ 9223372036854775807 := by cases he; unfold maxLen at hcm; omega
  have hcap : n ≤ cap := by cases he; exact hlc
  have hcap63 : cap ≤ 9223372036854775807 := by cases he; unfold maxLen at hcm; omega
  have HR : Hid (RdA w (.slice a n cap) xs) := hr
  clear hr he hlc hcm hnl
  have HM : Hid ((Lit.int .i64 m).wf = true) := hm
  have HV : Hid (Rd .i64 w v ms) := hv
  obtain ⟨va, vc, rfl, hvl, hvm, _⟩ := hv
  obtain ⟨vn, hvn⟩ : ∃ n, Hid (ms.length = n) := ⟨_, rfl⟩
  rw [hvn.out] at hvl HV ⊢
  unfold maxLen at hvm
  clear hm
  go_enter Try.func4, Try.ntmps4
  go_wp2_with fail
  refine (new_at 10 40 10 40 rfl rfl (by decide) (by decide) w).mono ?_
  rintro e w1 ⟨M, rfl, hp1, hb1⟩
  have HP1 : Hid (Pm w1 M (new 10 40) (fun k => w.heap.size ≤ k ∧ k < w1.heap.size)) := hp1
  have HB1 : Hid (Below w.heap.size w w1) := hb1
  clear hp1 hb1
  go_wp2_with fail
  refine (rnew_at 10 40 10 40 rfl rfl (by decide) (by decide) w1).mono ?_
  rintro e w2 ⟨R, rfl, hr2, hb2⟩
  have B2 : Hid (Bz w w w2 (fun _ => False) M R (new 10 40) (new 10 40)) := Bz.start HP1.out HB1.out hr2 hb2
  clear hr2 hb2 HP1 HB1
  go_wp2_with fail
  go_loopw [11] (fun i wr => ∃ (k : Nat) (s : St), k ≤ n ∧ i = .int .i64 k ∧ Hid (Thirty s) ∧ Hid (Bz w w wr (fun _ => False) M R s s)) (fun i _ => n - (intOf i).toNat)
  case atStart => exact ⟨0, new 10 40, Nat.zero_le _, rfl, thirty_new, B2⟩
  case round =>
    obtain ⟨k, s, hk, rfl, HT, B⟩ := hrel
    clear B2
    by_cases hlt : k < n
    · obtain ⟨x, hx⟩ : ∃ x, xs[k]? = some x := ⟨xs[k]'(by have := HNL.out; omega), List.getElem?_eq_getElem _⟩
      obtain ⟨b, o, rfl, c0, c1, wk, wn⟩ := HR.out.at_ B.out.below0 hx
      obtain ⟨kd, nn⟩ := x
      have HWK : Hid ((Lit.int .i64 kd).wf = true) := wk
      have HWN : Hid ((Lit.int .i64 nn).wf = true) := wn
      simp only at c0 c1
      clear wk wn hx
      go_wp2_with fail
      refine (does_any w wr M R s kd nn HWK.out HWN.out B.out).mono ?_
      rintro e w3 ⟨rfl, hb3⟩
      have B3 : Hid (Bz w w w3 (fun _ => False) M R (stp (pk kd 7) nn s) (stp (pk kd 7) nn s)) := hb3
      have HT3 : Hid (Thirty (stp (pk kd 7) nn s)) := HT.out.eqn (stp_eqn _ _ _)
      clear hb3 B c0 c1 HT
      go_wp2_with fail
      go_roundw
      case rel => exact ⟨k + 1, _, by omega, by first | rfl | go_num, HT3, B3⟩
      case measure => simp [intOf]; omega
    · have hd : decide (k < n) = false := by simp; omega
      go_wp2_with fail
      refine (releaseB B.out).mono ?_
      rintro e w3 ⟨rfl, hb3⟩
      have B3 : Hid (Bz w w w3 (fun _ => False) M R (rls s) s) := hb3
      have HT3 : Hid (Thirty (rls s)) := HT.out
      clear hb3 B HT
      obtain ⟨f, hf⟩ : ∃ f : Nat, Hid (fre (rls s) = f) := ⟨s.L.count 0, fre_rls s⟩
      have hf9 : f ≤ 30 := by
        have h1 := fre_rls s
        rw [hf.out] at h1
        have h2 := List.count_le_length (a := (0 : Int)) (l := s.L)
        have h3 : s.L.length = 30 := HT3.out.2
        omega
      go_wp2_with fail
      refine (freeB B3.out).mono ?_
      rintro e w4 ⟨rfl, hb4⟩
      rw [hf.out]
      have B4 : Hid (Bz w w w4 (fun _ => False) M R (rls s) s) := hb4
      clear hb4 B3
      by_cases hf0 : f = 0
      · subst hf0
        go_wp2_with fail
        refine (lives_any _).mono ?_
        rintro e wl ⟨rfl, hbl⟩
        have HBL : Hid (Below w.heap.size w wl) := B4.out.below0.trans ⟨hbl.os, hbl.tape, hbl.output, hbl.size, fun k hk => hbl.block k (by have := (B4.out.below0).size; omega)⟩
        clear hbl
        go_wp2_with fail
        go_ret
        exact ⟨rfl, HBL.out⟩
      · have hfz : ((f : Int) == 0) = false := by simp; omega
        go_wp2_with fail
        refine (freeB B4.out).mono ?_
        rintro e w5 ⟨rfl, hb5⟩
        rw [hf.out]
        have B5 : Hid (Bz w w w5 (fun _ => False) M R (rls s) s) := hb5
        clear hb5 B4
        go_wp2_with fail
        refine (pick_any m ((f : Int) + 1) HM.out (by omega) w5).mono ?_
        rintro e w5 ⟨rfl, rfl⟩
        have hpr := pk_range m ((f : Int) + 1) (by omega)
        obtain ⟨p, hp⟩ : ∃ p : Nat, pk m ((f : Int) + 1) = p := ⟨(pk m ((f : Int) + 1)).toNat, by omega⟩
        rw [hp] at hpr ⊢
        have hpf : p ≤ f := by omega
        have hrs : rsv (p : Int) (rls s) = (true, ⟨s.lo, s.L, p⟩) := by
          unfold rsv
          rw [if_neg (by rw [hf.out]; omega)]
          simp [rls]
        have HRS : Hid (rsv (p : Int) (rls s) = (true, ⟨s.lo, s.L, p⟩)) := hrs
        have HPW : Hid ((Lit.int .i64 (p : Int)).wf = true) := by show _ = _; simp [Lit.wf, IntKind.min, IntKind.max, IntKind.signed, IntKind.bits]; omega
        clear hpr hp hrs
        go_wp2_with fail
        refine (reserveB (p : Int) HPW.out B5.out).mono ?_
        rintro e w6 ⟨rfl, hb6⟩
        rw [HRS.out] at hb6 ⊢
        obtain ⟨s6, hs6⟩ : ∃ s6, Hid ((⟨s.lo, s.L, p⟩ : St) = s6) := ⟨_, rfl⟩
        simp only at hb6 ⊢
        rw [hs6.out] at hb6
        have B6 : Hid (Bz w w w6 (fun _ => False) M R s6 s) := hb6
        have HA6 : Hid (s6.as = p) := by show _ = _; rw [← hs6.out]
        clear hb6 B5 HRS
        go_wp2_with fail
        obtain ⟨wo, rfl⟩ : ∃ wo, wo = w6 := ⟨_, rfl⟩
        go_loopw [12] (fun i wx => ∃ (k : Nat) (s' : St), k ≤ vn ∧ i = .int .i64 k ∧ Hid (s'.as = p) ∧ Hid (Bz w w wx (fun _ => False) M R s' s)) (fun i _ => vn - (intOf i).toNat)
        case atStart => exact ⟨0, s6, Nat.zero_le _, rfl, HA6, B6⟩
        case round =>
          obtain ⟨j, s7, hj, rfl, HA, B⟩ := hrel
          clear B6 HA6
          by_cases hjl : j < vn
          · obtain ⟨a2, cap2, e2, _, _, _, hcells⟩ := HV.out.below B.out.below0
            rw [hvn.out] at e2
            cases e2
            obtain ⟨vb, vo, rfl, hcl⟩ : ∃ b o, va = some ⟨b, o, none⟩ ∧ ∀ i, i < ms.length → wr.cell? ⟨b, o + i, none⟩ = some (.int .i64 (ms.getD i 0)) := by
              rcases hcells with e | e
              · have := hvn.out
                rw [e] at this
                simp at this
                omega
              · exact e
            have ck := hcl j (by rw [hvn.out]; exact hjl)
            obtain ⟨y, hy⟩ : ∃ y, Hid (ms.getD j 0 = y) := ⟨_, rfl⟩
            rw [hy.out] at ck
            clear hcells hcl
            go_wp2_with fail
            refine (markB y B.out).mono ?_
            rintro e w8 ⟨rfl, hb8⟩
            have B8 : Hid (Bz w w w8 (fun _ => False) M R (mrk y s7).2 s) := hb8
            have HA8 : Hid ((mrk y s7).2.as = p) := by show _ = _; unfold mrk; split; (· exact HA.out); (· exact HA.out)
            obtain ⟨tb, htb⟩ : ∃ tb, Hid ((mrk y s7).1 = tb) := ⟨_, rfl⟩
            rw [htb.out]
            clear hb8 B HA ck
            go_wp2_with fail
            go_roundw
            case rel => exact ⟨j + 1, _, by omega, by first | rfl | go_num, HA8, B8⟩
            case measure => simp [intOf]; omega
          · have hd2 : decide (j < vn) = false := by simp; omega
            go_wp2_with fail
            obtain ⟨wo2, rfl⟩ : ∃ wo2, wo2 = wr := ⟨_, rfl⟩
            go_loopw [13] (fun i wx => ∃ (k : Nat) (s' : St), k ≤ p ∧ i = .int .i64 k ∧ Hid (s'.as = p - k) ∧ Hid (Bz w w wx (fun _ => False) M R s' s)) (fun i _ => p - (intOf i).toNat)
            case atStart => exact ⟨0, s7, Nat.zero_le _, rfl, HA, B⟩
            case round =>
              obtain ⟨i, s9, hi, rfl, HA9, B9⟩ := hrel
              clear B HA
              by_cases hil : i < p
              · have hok := B9.out.ok.aside
                have hc0 : s9.L.count 0 ≠ 0 := by have := HA9.out; omega
                have HTK : Hid ((take s9).2.1 = true) := by show _ = _; unfold take; rw [if_neg hc0]
                have HA10 : Hid ((take s9).2.2.as = p - (i + 1)) := by show _ = _; unfold take; rw [if_neg hc0]; have := HA9.out; simp only; omega
                clear hok hc0
                go_wp2_with fail
                refine (takeB B9.out).mono ?_
                rintro e w10 ⟨rfl, hb10⟩
                have B10 : Hid (Bz w w w10 (fun _ => False) M R (take s9).2.2 s) := hb10
                obtain ⟨z, hz⟩ : ∃ z, Hid ((take s9).1 = z) := ⟨_, rfl⟩
                rw [hz.out, HTK.out]
                clear hb10 B9 HA9 HTK
                go_wp2_with fail
                go_roundw
                case rel => exact ⟨i + 1, _, by omega, by first | rfl | go_num, HA10, B10⟩
                case measure => simp [intOf]; omega
              · have hd3 : decide (i < p) = false := by simp; omega
                go_wp2_with fail
                refine (lives_any _).mono ?_
                rintro e wl ⟨rfl, hbl⟩
                have HBL : Hid (Below w.heap.size w wl) := B9.out.below0.trans ⟨hbl.os, hbl.tape, hbl.output, hbl.size, fun k hk => hbl.block k (by have := (B9.out.below0).size; omega)⟩
                clear hbl
                go_wp2_with fail
                go_ret
                exact ⟨rfl, HBL.out⟩
end Go.Proofs.Ytamgogkkcbeaaaa
