/-
  The digest's bytes.
-/
import Derived.Test.YtfdnlkhipjjnbaaSSpr
namespace Go.Proofs.Ytfdnlkhipjjnbaa
open Go.RowKit Pl
set_option linter.unusedVariables false

theorem dgB_parts (s : St) (n : Nat) (h : s.at_ n < 4294967296) : dgB s (4 * n) = s.at_ n / 16777216 ∧ dgB s (4 * n + 1) = s.at_ n / 65536 % 256 ∧ dgB s (4 * n + 2) = s.at_ n / 256 % 256 ∧ dgB s (4 * n + 3) = s.at_ n % 256 := by
  unfold dgB
  rw [show 4 * n / 4 = n by omega, show (4 * n + 1) / 4 = n by omega, show (4 * n + 2) / 4 = n by omega, show (4 * n + 3) / 4 = n by omega,
    show 4 * n % 4 = 0 by omega, show (4 * n + 1) % 4 = 1 by omega, show (4 * n + 2) % 4 = 2 by omega, show (4 * n + 3) % 4 = 3 by omega]
  refine ⟨?_, ?_, ?_, ?_⟩
  · simp; omega
  · simp
  · simp
  · simp

set_option maxRecDepth 100000 in
set_option maxHeartbeats 4000000 in
theorem bytes_anyS (sg : Nat) (s : St) (w : World) (hs : Uv .u32 w sg 35 8 s.at_) (ho : s.ok) :
    Calls Try.prog 23 #[.pointer (some ⟨sg, 0, none⟩)] w fun e w' => e = .returned (.agg (ucs .u8 32 (dgB s)).toArray) ∧ Below w.heap.size w w' := by
  have HS : Hid (Uv .u32 w sg 35 8 s.at_) := hs
  have HO : Hid s.ok := ho
  have hsg := hs.lt
  clear hs ho
  obtain ⟨hv32, hi32⟩ := zero_of_info info_32
  have HI32 : Hid ((Try.prog.info? 23).map (·.size) = some 32) := hi32
  obtain ⟨f, hf⟩ : ∃ f, Hid (dgB s = f) := ⟨_, rfl⟩
  rw [hf.out]
  obtain ⟨Z, hZ⟩ : ∃ Z, Hid ((ucs .u8 32 (fun _ => 0)).toArray = Z) := ⟨_, rfl⟩
  rw [hZ.out] at hv32
  obtain ⟨F, hF⟩ : ∃ F, Hid (ucs .u8 32 f = F) := ⟨_, rfl⟩
  rw [hF.out]
  clear hi32
  go_enter Try.func23, Try.ntmps23
  go_wp2_with fail
  obtain ⟨g, hg⟩ : ∃ g, w.heap.size + 1 = g := ⟨_, rfl⟩
  have C0 : Hid (Uv .u8 ((w.alloc (.cells Z 23)).alloc (.cells Z 23)) g 23 32 (sofar f (4 * 0))) := by
    have h0 := uv_new .u8 (w.alloc (.cells Z 23)) 23 32 (fun _ => 0)
    rw [hZ.out] at h0
    rw [← hg]
    have h1 := h0.congr (d := sofar f (4 * 0)) (fun i _ => by simp [sofar])
    rw [World.size_alloc] at h1
    exact h1
  have B0 : Hid (Below w.heap.size w ((w.alloc (.cells Z 23)).alloc (.cells Z 23))) := ((Below.refl _ _).alloc (Nat.le_refl _) _).alloc (by simp) _
  have R0 : Hid (Uv .u8 ((w.alloc (.cells Z 23)).alloc (.cells Z 23)) w.heap.size 23 32 (fun _ => 0)) := by
    have h0 := uv_new .u8 w 23 32 (fun _ => 0)
    rw [hZ.out] at h0
    exact h0.tch (S := fun _ => False) ((Tch.refl _ _).alloc _) (fun e => e)
  have HS0 : Hid (Uv .u32 ((w.alloc (.cells Z 23)).alloc (.cells Z 23)) sg 35 8 s.at_) := HS.out.below B0.out
  obtain ⟨W0, hW0⟩ : ∃ W0, Hid ((w.alloc (.cells Z 23)).alloc (.cells Z 23) = W0) := ⟨_, rfl⟩
  rw [hW0.out] at C0 B0 R0 HS0 ⊢
  clear hv32 hZ HS
  rw [hg]
  go_loopw [7] (fun i wr => ∃ n : Nat, n ≤ 8 ∧ i = .int .i64 n ∧ Hid (Uv .u8 wr g 23 32 (sofar f (4 * n))) ∧ Hid (Tch (fun k => k = g) W0 wr)) (fun i _ => 8 - (intOf i).toNat)
  case atStart => exact ⟨0, Nat.zero_le _, rfl, C0, Tch.refl _ _⟩
  case round =>
    clear C0
    obtain ⟨n, hn, rfl, CV, T⟩ := hrel
    by_cases hlt : n < 8
    · have cs := (HS0.out.tch T.out (fun e => by omega)).at_ n hlt
      obtain ⟨e0, e1, e2, e3⟩ := dgB_parts s n (HO.out.at_ n)
      have hx := HO.out.at_ n
      rw [hf.out] at e0 e1 e2 e3
      obtain ⟨x, hxe⟩ : ∃ x, s.at_ n = x := ⟨_, rfl⟩
      rw [hxe] at cs hx e0 e1 e2 e3
      obtain ⟨m, hm⟩ : ∃ m, 4 * n = m := ⟨_, rfl⟩
      rw [hm] at e0 e1 e2 e3 CV
      obtain ⟨x0, hx0⟩ : ∃ y, x / 16777216 = y := ⟨_, rfl⟩
      obtain ⟨x1, hx1⟩ : ∃ y, x / 65536 % 256 = y := ⟨_, rfl⟩
      obtain ⟨x2, hx2⟩ : ∃ y, x / 256 % 256 = y := ⟨_, rfl⟩
      obtain ⟨x3, hx3⟩ : ∃ y, x % 256 = y := ⟨_, rfl⟩
      rw [hx0] at e0; rw [hx1] at e1; rw [hx2] at e2; rw [hx3] at e3
      have CV1 := (CV.out.set m (by omega) x0).congr (d := sofar f (m + 1)) (fun i _ => by rw [← e0]; exact sofar_step f m i)
      have CV2 := (CV1.set (m + 1) (by omega) x1).congr (d := sofar f (m + 2)) (fun i _ => by rw [← e1]; exact sofar_step f (m + 1) i)
      have CV3 := (CV2.set (m + 2) (by omega) x2).congr (d := sofar f (m + 3)) (fun i _ => by rw [← e2]; exact sofar_step f (m + 2) i)
      have CV4 := (CV3.set (m + 3) (by omega) x3).congr (d := sofar f (m + 4)) (fun i _ => by rw [← e3]; exact sofar_step f (m + 3) i)
      have T4 := Tch.setCell (Tch.setCell (Tch.setCell (Tch.setCell T.out (p := ⟨g, m, none⟩) (fun _ => rfl) (.int .u8 (x0 : Int))) (p := ⟨g, m + 1, none⟩) (fun _ => rfl) (.int .u8 (x1 : Int))) (p := ⟨g, m + 2, none⟩) (fun _ => rfl) (.int .u8 (x2 : Int))) (p := ⟨g, m + 3, none⟩) (fun _ => rfl) (.int .u8 (x3 : Int))
      have c0 := CV.out.at_ m (by omega)
      have f0 := CV.out.fz m
      have c1 := CV.out.at_ (m + 1) (by omega)
      have f1 := CV.out.fz (m + 1)
      have c2 := CV.out.at_ (m + 2) (by omega)
      have f2 := CV.out.fz (m + 2)
      have c3 := CV.out.at_ (m + 3) (by omega)
      have f3 := CV.out.fz (m + 3)
      generalize sofar f m m = z0 at c0
      generalize sofar f m (m + 1) = z1 at c1
      generalize sofar f m (m + 2) = z2 at c2
      generalize sofar f m (m + 3) = z3 at c3
      have CE : Hid (Uv .u8 ((((wr.setCell ⟨g, m, none⟩ (.int .u8 (x0 : Int))).setCell ⟨g, m + 1, none⟩ (.int .u8 (x1 : Int))).setCell ⟨g, m + 2, none⟩ (.int .u8 (x2 : Int))).setCell ⟨g, m + 3, none⟩ (.int .u8 (x3 : Int))) g 23 32 (sofar f (m + 4))) := CV4
      have TE : Hid (Tch (fun k => k = g) W0 ((((wr.setCell ⟨g, m, none⟩ (.int .u8 (x0 : Int))).setCell ⟨g, m + 1, none⟩ (.int .u8 (x1 : Int))).setCell ⟨g, m + 2, none⟩ (.int .u8 (x2 : Int))).setCell ⟨g, m + 3, none⟩ (.int .u8 (x3 : Int)))) := T4
      have i0 : 4 * (n : Int) = (m : Int) := by omega
      have b0 : (x : Int) / 16777216 = (x0 : Int) := by omega
      have b1 : (x : Int) / 65536 % 256 = (x1 : Int) := by omega
      have b2 : (x : Int) / 256 % 256 = (x2 : Int) := by omega
      have b3 : (x : Int) % 256 = (x3 : Int) := by omega
      have hx0' : x0 < 256 := by omega
      have hm1 : (m : Int) + 3 < 32 := by omega
      have hi1 : (n : Int) < 8 := by omega
      clear CV CV1 CV2 CV3 CV4 T4 T e0 e1 e2 e3 hxe hx0 hx1 hx2 hx3
      go_wp2_with fail
      go_quiet (fail)
      obtain ⟨W1, hW1⟩ : ∃ W1, Hid (wr.drewN nq = W1) := ⟨_, rfl⟩
      have d0 : W1.cell? ⟨g, m, none⟩ = some (.int .u8 (z0 : Int)) := by rw [← hW1.out]; exact c0
      have d1 : W1.cell? ⟨g, m + 1, none⟩ = some (.int .u8 (z1 : Int)) := by rw [← hW1.out]; exact c1
      have d2 : W1.cell? ⟨g, m + 2, none⟩ = some (.int .u8 (z2 : Int)) := by rw [← hW1.out]; exact c2
      have d3 : W1.cell? ⟨g, m + 3, none⟩ = some (.int .u8 (z3 : Int)) := by rw [← hW1.out]; exact c3
      have k0 : W1.frozen? ⟨g, m, none⟩ = false := by rw [← hW1.out]; exact f0
      have k1 : W1.frozen? ⟨g, m + 1, none⟩ = false := by rw [← hW1.out]; exact f1
      have k2 : W1.frozen? ⟨g, m + 2, none⟩ = false := by rw [← hW1.out]; exact f2
      have k3 : W1.frozen? ⟨g, m + 3, none⟩ = false := by rw [← hW1.out]; exact f3
      have CF : Hid (Uv .u8 ((((W1.setCell ⟨g, m, none⟩ (.int .u8 (x0 : Int))).setCell ⟨g, m + 1, none⟩ (.int .u8 (x1 : Int))).setCell ⟨g, m + 2, none⟩ (.int .u8 (x2 : Int))).setCell ⟨g, m + 3, none⟩ (.int .u8 (x3 : Int))) g 23 32 (sofar f (m + 4))) := by rw [← hW1.out]; exact CE
      have TF : Hid (Tch (fun k => k = g) W0 ((((W1.setCell ⟨g, m, none⟩ (.int .u8 (x0 : Int))).setCell ⟨g, m + 1, none⟩ (.int .u8 (x1 : Int))).setCell ⟨g, m + 2, none⟩ (.int .u8 (x2 : Int))).setCell ⟨g, m + 3, none⟩ (.int .u8 (x3 : Int)))) := by rw [← hW1.out]; exact ⟨TE.out.os, TE.out.tape, TE.out.output, TE.out.size, TE.out.block⟩
      rw [hW1.out]
      clear hW1 CE TE c0 c1 c2 c3 f0 f1 f2 f3 cs
      go_wp2_with fail
      go_roundw
      case rel => exact ⟨n + 1, by omega, by go_num, by rw [show 4 * (n + 1) = m + 4 by omega]; exact CF, TF⟩
      case measure => simp [intOf]; omega
    · have hn0 : n = 8 := by omega
      rw [hn0] at CV
      have hnn : ¬ (n : Int) < 8 := by omega
      have RR : Hid (wr.there w.heap.size 0 32) := (R0.out.tch T.out (fun e => by omega)).there
      have HRG : Hid (wr.rangeAt g 0 F) := by
        rw [← hF.out]
        exact (CV.out.congr (d := f) (fun i hi => by unfold sofar; rw [if_pos hi])).range
      have HPL : Hid (F.length = 32) := by show _ = _; rw [← hF.out, ucs_length]
      have HSZ : Hid (F.toArray.size = 32) := by show _ = _; rw [List.size_toArray]; exact HPL.out
      have HON : Hid (F.toArray.all (·.oneCell') = true) := by show _ = _; rw [← hF.out]; exact ucs_one _ _ _
      clear hlt
      go_wp2_with (first | (refine wpList_load_mid rfl 23 (.tmp 3) rfl g 0 rfl F _ HRG.out Try.underlying23 rfl (by rw [HPL.out]; exact HI32.out) ?_) | (refine wpList_store_mid rfl 23 (.tmp 2) (.tmp 40) rfl w.heap.size 0 F.toArray rfl rfl (by rw [HSZ.out]; exact RR.out) (by rw [HSZ.out]; exact HI32.out) HON.out ?_))
      have hld := run_loadVar_mid (P := Try.prog) (wr.setCells w.heap.size 0 F.toArray.toList) w.heap.size 0 23 F _ (by
        have := World.rangeAt_setCells_same wr w.heap.size 0 F.toArray.toList (by rw [Array.length_toList, HSZ.out]; exact RR.out)
        simpa using this) Try.underlying23 rfl (by rw [HPL.out]; exact HI32.out)
      refine bodyPost_ret (v := .agg F.toArray) ?_ rfl ⟨rfl, ?_⟩
      · exact results_atS (p := 2) (ty := 23) rfl _ _ _ w.heap.size _ rfl hld
      · have h1 := B0.out.trans (T.out.below B0.out.size (fun k e => by rw [e, ← hg]; omega))
        exact h1.trans ((setCells_tchS w.heap.size _ 0 wr).below h1.size (fun k e => by rw [e]; exact Nat.le_refl _))
end Go.Proofs.Ytfdnlkhipjjnbaa
