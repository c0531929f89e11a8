/-
  The document's runs; two rows of runs compared.
-/
import Derived.Test.YtamgogkkcbeaaaaARun
import Derived.Laws.StructEq
import Derived.ChangeKeysEq
namespace Go.Proofs.Ytamgogkkcbeaaaa
open Go.RowKit Ah
set_option linter.unusedVariables false
set_option linter.unusedSimpArgs false
set_option maxRecDepth 100000

set_option maxHeartbeats 2000000 in
theorem rruns_any (R : Nat) (s : St) (Y : Nat → Prop) (w : World) (H : Rm w R s Y) :
    Calls Try.prog 20 #[rp R] w fun e w' => RunR w (rr s.lo s.L s.L.length) e w' := by
  obtain ⟨vr, h, _⟩ := H
  have HH : Hid (RmAt w R s vr) := h
  obtain ⟨a, cap, rfl, hcap, hmax, _⟩ := h.own.rd
  have htop := h.ok.top
  obtain ⟨m, hm⟩ : ∃ m, Hid (s.L.length = m) := ⟨_, rfl⟩
  obtain ⟨l, hl⟩ : ∃ l, Hid (s.lo = l) := ⟨_, rfl⟩
  rw [hm.out] at hcap htop HH ⊢
  rw [hl.out] at htop
  unfold maxLen at hmax
  have HC : Hid (∀ wr, Below w.heap.size w wr → wr.cell? ⟨R, 0, none⟩ = some (.int .i64 l) ∧ wr.cell? ⟨R, 1, none⟩ = some (.slice a m cap) ∧ Rd .i64 wr (.slice a m cap) s.L) := fun wr hb => by
    have hT := Tch.of_below (S := fun _ => False) hb
    refine ⟨?_, ?_, HH.out.own.rd.below hb⟩
    · rw [hT.cell (p := ⟨R, 0, none⟩) HH.out.lt (fun e => e), ← hl.out]; exact HH.out.c0
    · rw [hT.cell (p := ⟨R, 1, none⟩) HH.out.lt (fun e => e)]; exact HH.out.c1
  clear h
  go_enter Try.func20, Try.ntmps20
  go_wp2_with fail
  go_loopw [3, 4] (fun r i wr => ∃ (n : Nat), n ≤ m + 1 ∧ i = .int .i64 n ∧ Hid (n ≤ m → n = 0 ∨ G s.L (n - 1) ≠ 0) ∧ Hid (OwnsT wr r (rr s.lo s.L (min n m))) ∧ Hid (Below w.heap.size w wr) ∧ Hid (∀ k, r.ownBlock = some k → w.heap.size ≤ k)) (fun _ i _ => m + 1 - (intOf i).toNat)
  case atStart => exact ⟨0, Nat.zero_le _, rfl, (fun _ => .inl rfl), (by simp only [Nat.zero_min, rr]; exact ownsT_nil _), Below.refl _ _, (fun k hk => by cases hk)⟩
  case round =>
    obtain ⟨t, hn, rfl, HI, HO, HB, HN⟩ := hrel
    obtain ⟨c0, c1, hrd⟩ := HC.out wr HB.out
    by_cases hlt : t < m
    · obtain ⟨a2, cap2, e2, _, _, _, hcells⟩ := hrd
      rw [hm.out] at e2
      cases e2
      obtain ⟨bb, ob, rfl, hcl⟩ : ∃ b o, a = some ⟨b, o, none⟩ ∧ ∀ i, i < s.L.length → wr.cell? ⟨b, o + i, none⟩ = some (.int .i64 (s.L.getD i 0)) := by
        rcases hcells with e | e
        · have := hm.out
          rw [e] at this
          simp at this
          omega
        · exact e
      have HCL : Hid (∀ i, i < m → wr.cell? ⟨bb, ob + i, none⟩ = some (.int .i64 (G s.L i))) := fun i hi => hcl i (by rw [hm.out]; exact hi)
      have ck := HCL.out t hlt
      obtain ⟨z, hz⟩ : ∃ z, Hid (G s.L t = z) := ⟨_, rfl⟩
      rw [hz.out] at ck
      have hmin : min t m = t := by omega
      rw [hmin] at HO
      clear hcells hcl hmin
      by_cases hfree : z = 0
      · subst hfree
        have HI0 : Hid (t = 0 ∨ G s.L (t - 1) ≠ 0) := HI.out (by omega)
        go_wp2_with fail
        obtain ⟨wo, rfl⟩ : ∃ wo, wo = wr := ⟨_, rfl⟩
        go_loopw [5] (fun n wx => ∃ (e : Nat), 1 ≤ e ∧ t + e ≤ m ∧ n = .int .i64 e ∧ Hid (∀ j, t ≤ j → j < t + e → G s.L j = 0) ∧ wx = wo) (fun n _ => m - (intOf n).toNat)
        case atStart => exact ⟨1, Nat.le_refl _, by omega, rfl, (fun j h1 h2 => by
          have : j = t := by omega
          subst this
          exact hz.out), rfl⟩
        case round =>
          obtain ⟨e, he1, he, rfl, HZ, rfl⟩ := hrel
          by_cases hend : t + e < m
          · have cd := HCL.out (t + e) hend
            obtain ⟨y, hy⟩ : ∃ y, Hid (G s.L (t + e) = y) := ⟨_, rfl⟩
            rw [hy.out] at cd
            by_cases hy0 : y = 0
            · subst hy0
              have HZ2 : Hid (∀ j, t ≤ j → j < t + (e + 1) → G s.L j = 0) := fun j h1 h2 => by
                by_cases e2 : j = t + e
                · rw [e2]; exact hy.out
                · exact HZ.out j h1 (by omega)
              go_wp2_with fail
              go_roundw
              case rel => exact ⟨e + 1, by omega, by omega, by first | rfl | go_num, HZ2, by first | rfl | trivial⟩
              case measure => simp [intOf]; omega
            · have hy1 : (y == 0) = false := by simp [hy0]
              have HNX : Hid (t + e + 1 ≤ m → t + e + 1 = 0 ∨ G s.L (t + e + 1 - 1) ≠ 0) := fun _ => .inr (by
                simp only [Nat.add_sub_cancel]
                rw [hy.out]; exact hy0)
              have HRX : Hid (rr s.lo s.L (min (t + e + 1) m) = rr s.lo s.L (t + e)) := by
                show _ = _
                have e2 : min (t + e + 1) m = (t + e) + 1 := by omega
                rw [e2]
                simp only [rr]
                rw [if_neg (by rw [hy.out]; exact hy0)]
              clear hy0
              have HRN : Hid (rr s.lo s.L (t + e) = rr s.lo s.L t ++ [((l : Int) + (t : Int), (e : Int))]) := by
                show _ = _
                obtain ⟨d, rfl⟩ : ∃ d, e = d + 1 := ⟨e - 1, by omega⟩
                have := rr_run (lo := s.lo) HI0.out d (fun j h1 h2 => HZ.out j h1 (by omega))
                rw [this, hl.out]
                simp
              have HLN : Hid ((rr s.lo s.L t).length ≤ t) := rr_len s.lo s.L t
              go_wp2_with (at_builtin; refine wpList_pushT _ rfl (.tmp 46) (.tmp 55) rfl _ (rr s.lo s.L t) rfl HO.out ((l : Int) + (t : Int), (e : Int)) rfl (by have := HLN.out; omega) ?_)
              intro v2 w2 ho2 hg2
              rw [← HRN.out, ← HRX.out] at ho2
              have OV : Hid (OwnsT w2 v2 (rr s.lo s.L (min (t + e + 1) m))) := ho2
              have hBV := hg2.onto HB.out HN.out
              have BV : Hid (Below w.heap.size w w2) := hBV.1
              have NV : Hid (∀ k, v2.ownBlock = some k → w.heap.size ≤ k) := hBV.2
              clear ho2 hg2 hBV HO HB HN cd
              go_wp2_with fail
              go_roundw
              case rel => exact ⟨t + e + 1, by omega, by first | rfl | go_num, HNX, OV, BV, NV⟩
              case measure => simp [intOf]; omega
          · have hem : t + e = m := by omega
            have hdm : decide (t + e < m) = false := by simp; omega
            have HNX : Hid (t + e + 1 ≤ m → t + e + 1 = 0 ∨ G s.L (t + e + 1 - 1) ≠ 0) := fun h => by omega
            have HRX : Hid (rr s.lo s.L (min (t + e + 1) m) = rr s.lo s.L (t + e)) := by
              show _ = _
              rw [show min (t + e + 1) m = t + e by omega]
            have HEM : Hid (t + e = m) := hem
            clear hem
            have HRN : Hid (rr s.lo s.L (t + e) = rr s.lo s.L t ++ [((l : Int) + (t : Int), (e : Int))]) := by
              show _ = _
              obtain ⟨d, rfl⟩ : ∃ d, e = d + 1 := ⟨e - 1, by omega⟩
              have := rr_run (lo := s.lo) HI0.out d (fun j h1 h2 => HZ.out j h1 (by omega))
              rw [this, hl.out]
              simp
            have HLN : Hid ((rr s.lo s.L t).length ≤ t) := rr_len s.lo s.L t
            go_wp2_with (at_builtin; refine wpList_pushT _ rfl (.tmp 46) (.tmp 55) rfl _ (rr s.lo s.L t) rfl HO.out ((l : Int) + (t : Int), (e : Int)) rfl (by have := HLN.out; omega) ?_)
            intro v2 w2 ho2 hg2
            rw [← HRN.out, ← HRX.out] at ho2
            have OV : Hid (OwnsT w2 v2 (rr s.lo s.L (min (t + e + 1) m))) := ho2
            have hBV := hg2.onto HB.out HN.out
            have BV : Hid (Below w.heap.size w w2) := hBV.1
            have NV : Hid (∀ k, v2.ownBlock = some k → w.heap.size ≤ k) := hBV.2
            clear ho2 hg2 hBV HO HB HN ck
            go_wp2_with fail
            go_roundw
            case rel => exact ⟨t + e + 1, by omega, by first | rfl | go_num, HNX, OV, BV, NV⟩
            case measure => simp [intOf]; omega
      · have hz1 : (z != 0) = true := by simp [hfree]
        have HO4 : Hid (OwnsT wr u3 (rr s.lo s.L (min (t + 1) m))) := by
          have e : min (t + 1) m = t + 1 := by omega
          rw [e]
          simp only [rr]
          rw [if_neg (by rw [hz.out]; exact hfree)]
          exact HO.out
        have HI4 : Hid (t + 1 ≤ m → t + 1 = 0 ∨ G s.L (t + 1 - 1) ≠ 0) := fun _ => .inr (by simp only [Nat.add_sub_cancel]; rw [hz.out]; exact hfree)
        clear hfree HO HI
        go_wp2_with fail
        go_roundw
        case rel => exact ⟨t + 1, by omega, by first | rfl | go_num, HI4, HO4, HB, HN⟩
        case measure => simp [intOf]; omega
    · have HF : Hid (OwnsT wr u3 (rr s.lo s.L m)) := by
        have := HO.out
        rw [show min t m = m by omega] at this
        exact this
      have hd : decide (t < m) = false := by simp; omega
      go_wp2_with fail
      go_ret
      exact ⟨u3, rfl, HF.out, HB.out, HN.out⟩
end Go.Proofs.Ytamgogkkcbeaaaa
