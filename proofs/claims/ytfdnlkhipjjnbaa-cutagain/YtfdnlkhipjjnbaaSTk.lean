/-
  The program takes whole pieces.
-/
import Derived.Test.YtfdnlkhipjjnbaaSMix
import Derived.Test.YtfdnlkhipjjnbaaSSpr
namespace Go.Proofs.Ytfdnlkhipjjnbaa
open Go.RowKit Pl
set_option linter.unusedVariables false

/-- The words s behind so many pieces of bytes b. -/
def tks (b : Nat → Nat) (s : St) : Nat → St
  | 0 => s
  | p + 1 => mixS kF (wF (wd fun j => b (64 * p + j))) (tks b s p)
theorem tks_ok (b : Nat → Nat) {s : St} (h : s.ok) : ∀ p, (tks b s p).ok
  | 0 => h
  | p + 1 => add_ok _ _
theorem tks_dg (b : Nat → Nat) : ∀ p, tks b st0 p = dg b p
  | 0 => rfl
  | p + 1 => by simp only [tks, dg]; rw [tks_dg b p]
theorem tks_congr {b c : Nat → Nat} (s : St) (n : Nat) (h : ∀ j, j < 64 * n → b j = c j) : tks b s n = tks c s n := by
  induction n with
  | zero => rfl
  | succ n ih =>
    simp only [tks]
    rw [ih (fun j hj => h j (by omega))]
    refine mixS_congr _ (fun _ _ => rfl) (fun i _ => ?_)
    refine wF_congr (fun j hj => ?_) i
    simp only [wd]
    rw [h (64 * n + 4 * j) (by omega), h (64 * n + (4 * j + 1)) (by omega), h (64 * n + (4 * j + 2)) (by omega), h (64 * n + (4 * j + 3)) (by omega)]
theorem tks_add (b : Nat → Nat) (s : St) (m : Nat) : ∀ n, tks (fun j => b (64 * m + j)) (tks b s m) n = tks b s (m + n)
  | 0 => rfl
  | n + 1 => by
    rw [← Nat.add_assoc]
    simp only [tks]
    rw [tks_add b s m n]
    refine congrArg (fun f => mixS kF (wF (wd f)) (tks b s (m + n))) ?_
    funext j
    rw [show 64 * m + (64 * n + j) = 64 * (m + n) + j by omega]

theorem by_drop {xs : List Int} (h : By xs) (m : Nat) : By (xs.drop m) := fun i => by
  have := h (m + i)
  rw [List.getD_eq_getElem?_getD] at this ⊢
  rw [List.getElem?_drop]
  exact this
theorem bN_drop (xs : List Int) (m i : Nat) : bN (xs.drop m) i = bN xs (m + i) := by
  unfold bN
  rw [List.getD_eq_getElem?_getD, List.getD_eq_getElem?_getD, List.getElem?_drop]

/-- Bytes lie apart from words. -/
theorem rd_apart {w w' : World} {v : Value} {xs : List Int} {g : Nat} {t : TypeId} {n : Nat} {c : Nat → Nat} (h : Rd .u8 w v xs) (hu : Uv .u32 w g t n c) (ht : Tch (fun b => b = g) w w') : Rd .u8 w' v xs := by
  obtain ⟨a, cap, rfl, hl, hm, h0, h⟩ := h
  refine ⟨a, cap, rfl, hl, hm, h0, ?_⟩
  rcases h with h | ⟨b, o, rfl, hc⟩
  · exact .inl h
  · refine .inr ⟨b, o, rfl, fun i hi => ?_⟩
    have h1 := hc i hi
    rw [ht.cell (p := ⟨b, o + i, none⟩) (World.block_lt_of_cell? w ⟨b, o + i, none⟩ h1) (fun e => ?_)]
    · exact h1
    · simp only at e
      subst e
      rw [cell_of_row w b (o + i) _ _ (0, 0) hu] at h1
      by_cases hj : o + i < n
      · simp [ucs, hj] at h1
      · simp [ucs, hj] at h1

set_option maxRecDepth 100000 in
set_option maxHeartbeats 2000000 in
theorem takeAll_any (sg kg : Nat) (s : St) (v : Value) (xs : List Int) (n : Nat) (W : World) (hs : Uv .u32 W sg 35 8 s.at_) (hk : Uv .u32 W kg 37 64 kF) (hne : kg ≠ sg)
    (ho : s.ok) (hr : Rd .u8 W v xs) (hb : By xs) (hl : xs.length = 64 * n) :
    Calls Try.prog 21 #[.pointer (some ⟨sg, 0, none⟩), .pointer (some ⟨kg, 0, none⟩), v] W fun e w' => e = .returned (.tuple #[]) ∧ Uv .u32 w' sg 35 8 (tks (bN xs) s n).at_ ∧ Tch (fun b => b = sg) W w' := by
  have HS : Hid (Uv .u32 W sg 35 8 s.at_) := hs
  have HK : Hid (Uv .u32 W kg 37 64 kF) := hk
  have HNE : Hid (kg ≠ sg) := hne
  have HO : Hid s.ok := ho
  have HR : Hid (Rd .u8 W v xs) := hr
  have HB : Hid (By xs) := hb
  clear hs hk hne ho hr hb
  obtain ⟨hv64, hi64⟩ := zero_of_info info_64
  have HI64 : Hid ((Try.prog.info? 37).map (·.size) = some 64) := hi64
  obtain ⟨Z, hZ⟩ : ∃ Z, Hid ((ucs .u32 64 (fun _ => 0)).toArray = Z) := ⟨_, rfl⟩
  rw [hZ.out] at hv64
  have HZL : Hid (Z.size = 64) := by show _ = _; rw [← hZ.out]; exact ucs_size _ _ _
  clear hi64
  go_enter Try.func21, Try.ntmps21
  go_wp2_with fail
  go_loopw [2] (fun d wr => ∃ p : Nat, p ≤ n ∧ Hid (Rd .u8 wr d (xs.drop (64 * p))) ∧ Hid (Uv .u32 wr sg 35 8 (tks (bN xs) s p).at_) ∧ Hid (Tch (fun b => b = sg) W wr)) (fun d _ => match d with | .slice _ l _ => l | _ => 0)
  case atStart => exact ⟨0, Nat.zero_le _, HR, HS, Tch.refl _ _⟩
  case round =>
    obtain ⟨p, hp, R1, U1, T1⟩ := hrel
    obtain ⟨a, cap, hd, _⟩ := id R1.out
    have hlen : (xs.drop (64 * p)).length = 64 * (n - p) := by rw [List.length_drop, hl]; omega
    rw [hlen] at hd
    subst hd
    by_cases hlt : p < n
    · obtain ⟨f, hf⟩ : ∃ f, Hid (wF (wd (bN (xs.drop (64 * p)))) = f) := ⟨_, rfl⟩
      have HFL : Hid (∀ i, f i < 4294967296) := fun i => by rw [← hf.out]; exact wF_lt (wd_lt (bN_lt (by_drop HB.out _))) i
      have HSP : Hid (Calls Try.prog 30 #[.slice a (64 * (n - p)) cap] wr fun e w' => e = .returned (.agg (ucs .u32 64 f).toArray) ∧ Below wr.heap.size wr w') := by
        show Calls _ _ _ _ _
        rw [← hf.out]
        exact spread_anyS _ _ wr R1.out (by_drop HB.out _) (by omega)
      have HE : Hid (mixS kF f (tks (bN xs) s p) = tks (bN xs) s (p + 1)) := by
        show _ = _
        simp only [tks]
        rw [← hf.out]
        refine congrArg (fun b => mixS kF (wF (wd b)) (tks (bN xs) s p)) ?_
        funext j
        rw [bN_drop]
      obtain ⟨F, hF⟩ : ∃ F, Hid (ucs .u32 64 f = F) := ⟨_, rfl⟩
      rw [hF.out] at HSP
      have HFS : Hid (F.toArray.size = 64) := by show _ = _; rw [← hF.out]; exact ucs_size _ _ _
      have HFO : Hid (F.toArray.all (·.oneCell') = true) := by show _ = _; rw [← hF.out]; exact ucs_one _ _ _
      have hpos : (0 : Int) < ((64 * (n - p) : Nat) : Int) := by omega
      obtain ⟨M, hM⟩ : ∃ M, 64 * (n - p) = M := ⟨_, rfl⟩
      rw [hM] at hlen HSP hpos ⊢
      rw [hM] at R1
      go_wp2_with fail
      refine HSP.out.mono ?_
      rintro e w2 ⟨rfl, hb2⟩
      have R2 : Hid (Rd .u8 w2 (.slice a M cap) (xs.drop (64 * p))) := R1.out.below hb2
      have U2 : Hid (Uv .u32 w2 sg 35 8 (tks (bN xs) s p).at_) := U1.out.below hb2
      have T2 : Hid (Tch (fun b => b = sg) W w2) := T1.out.trans (S' := fun _ => False) (Tch.of_below hb2) (fun _ _ e => e.elim)
      clear HSP hb2 R1 U1 T1
      go_wp2_with (with_reducible (show wpList _ _ _ (Oper.mk _ (Op.store _ _ _) _ _ _ _ :: _) _ _); refine wpList_store_newS w2 rfl 37 (.tmp 6) (.tmp 13) rfl Z F.toArray rfl rfl (by rw [HFS.out]; exact HI64.out) (by rw [HFS.out, HZL.out]) HFO.out ?_)
      have T3 : Tch (fun b => b = sg) w2 (w2.alloc (.cells F.toArray 37)) := (Tch.refl _ _).alloc _
      have b3 : Below w2.heap.size w2 (w2.alloc (.cells F.toArray 37)) := (Below.refl _ _).alloc (Nat.le_refl _) _
      have u3 := uv_new .u32 w2 37 64 f
      rw [hF.out] at u3
      have UK : Uv .u32 (w2.alloc (.cells F.toArray 37)) kg 37 64 kF := (HK.out.tch T2.out HNE.out).tch T3 HNE.out
      refine (mix_any sg kg w2.heap.size (tks (bN xs) s p) kF f _ (U2.out.below b3) UK u3 (tks_ok _ HO.out p) kF_lt HFL.out).mono ?_
      rintro e w4 ⟨rfl, u4, t4⟩
      rw [HE.out] at u4
      have R4 : Hid (Rd .u8 w4 (.slice a M cap) (xs.drop (64 * p))) := rd_apart (R2.out.below b3) (U2.out.below b3) t4
      have U4 : Hid (Uv .u32 w4 sg 35 8 (tks (bN xs) s (p + 1)).at_) := u4
      have T4 : Hid (Tch (fun b => b = sg) W w4) := T2.out.trans (T3.trans t4 (fun _ _ e => e)) (fun _ _ e => e)
      clear u3 UK u4 t4 T3 b3 R2 U2 T2
      have R5 : Hid (Rd .u8 w4 (sliced a 64 M cap 1) (xs.drop (64 * (p + 1)))) := by
        have r4 := R4.out
        rw [← hlen] at r4
        have h5 := rd_sliced r4 64 (xs.drop (64 * p)).length (by omega) (Nat.le_refl _)
        rw [hlen, List.drop_drop, show 64 * p + 64 = 64 * (p + 1) by omega, List.take_of_length_le (by rw [List.length_drop, hl]; omega)] at h5
        exact h5
      have hM64 : 64 ≤ M := by omega
      have hcapM : M ≤ cap := by
        obtain ⟨_, _, e, h, _⟩ := R4.out
        cases e
        rw [hlen] at h
        exact h
      clear R4
      go_wp2_with fail
      go_roundw
      case rel => exact ⟨p + 1, hlt, by show Rd _ _ _ _; have h := R5.out; simpa [sliced, Addr.add] using h, U4, T4⟩
      case measure => simp; omega
    · have hpn : p = n := by omega
      have hz : 64 * (n - p) = 0 := by omega
      rw [hz] at R1 ⊢
      rw [hpn] at U1
      go_wp2_with fail
      go_end0
      exact ⟨rfl, U1.out, T1.out⟩
end Go.Proofs.Ytfdnlkhipjjnbaa
