import Derived.Test.YtobenjkacpipeaaGreatPPkSteps
import Derived.Test.YtobenjkacpipeaaGreatPPkRep
import Derived.Test.YtobenjkacpipeaaGreatPMRunP
import Derived.Test.YtobenjkacpipeaaGreatPSPl
set_option maxRecDepth 100000
set_option linter.unusedVariables false
set_option linter.unusedSimpArgs false
set_option maxHeartbeats 8000000
namespace Go.Proofs.YtobenjkacpipeaaGreat
open Go.RowKit Pl Go.Maps Go.WideMaps Hf
noncomputable def bodyS (σ : Option (List Int)) (mode : Int) (n : Nat) : List Int × Option (List Int) :=
 if mode = 0 then bytesS σ n
 else if mode = 1 then (List.replicate n (oneS (askS σ (decide (0 < (n : Int))))).1, (oneS (askS σ (decide (0 < (n : Int))))).2)
 else
  let L := litS (askS σ (decide (0 < (n : Int)))) n
  let T := stpS L.2 n
  let R := runR L.1 T.1 n
  (R.2, askS T.2 (R.1 == 0 && (R.2.length : Int) == (n : Int)))
theorem zxy9 {σ : Option (List Int)} (n : Nat) (h : By (σ.getD [])) : (litS σ n).1.length <= n := by
 have hb := zfs9 h
 unfold litS
 simp only
 split
 ·rename_i hc
  split
  ·have := zfj9 (oneS (numS σ).2).2 (numS σ).1.toNat
   omega
  ·split
   ·unfold tcS
    simp only
    by_cases e : (hdecR (tabR ((oneS (numS σ).2).2.getD [])).2.1 (sizedS (bytesS (askS (oneS (numS σ).2).2 ((tabR ((oneS (numS σ).2).2.getD [])).1 == 0)) (tabR ((oneS (numS σ).2).2.getD [])).2.2).2).1 (numS σ).1).1 = 0
    ·have := (zts9 e).1
     omega
    ·have : (hdecR (tabR ((oneS (numS σ).2).2.getD [])).2.1 (sizedS (bytesS (askS (oneS (numS σ).2).2 ((tabR ((oneS (numS σ).2).2.getD [])).1 == 0)) (tabR ((oneS (numS σ).2).2.getD [])).2.2).2).1 (numS σ).1).2 = [] := zsj9 e
     rw [this]; simp
   ·simp
 ·simp
theorem zvk9 {σ : Option (List Int)} (n : Nat) (h : By (σ.getD [])) : (stpS σ n).1.length <= n := by
 have hb := zfs9 h
 unfold stpS
 split
 ·rename_i hc
  split
  ·simp
  ·split
   ·simp only [zdi9]; omega
   ·simp
 ·simp
theorem zkl9 (n0 g : Nat) (σ : Option (List Int)) (mode : Int) (n : Nat) (w : World) (h : SoX n0 w g σ) (hn : n <= 65536) (hwn : n0 <= w.heap.size) (hm : 0 <= mode /\ mode <= 2) :
  Calls Tryz.prog 44 #[.pointer (some ⟨g, 0, none⟩), .int .u8 mode, .int .i64 (n : Int)] w fun e w' => ∃ rv, e = .returned rv /\ Nw w.heap.size w' rv (bodyS σ mode n).1 /\ SoX n0 w' g (bodyS σ mode n).2 /\ Tch (fun k => k = g) w w' := by
 have H : Hid (SoX n0 w g σ) := h
 have hgl := h.lt
 clear h
 unfold bodyS
 by_cases h0 : mode = 0
 ·subst h0
  rw [if_pos rfl]
  go_enter Tryz.func44, Tryz.ntmps44
  go_wp2_with fail
  refine (zaa9 n0 g σ n w H.out (by omega)).mono ?_
  rintro e w1 ⟨rv1, rfl, hk1, hs1, ht1⟩
  have S1 : Hid (SoX n0 w1 g (bytesS σ n).2) := hs1
  have K1 : Hid (Tk n0 w1 rv1 (bytesS σ n).1) := hk1
  have T1 : Hid (Tch (fun k => k = g) w w1) := ht1
  clear hs1 hk1 ht1
  go_wp2_with fail
  refine (zsm9 rv1 _ w1 K1.out.rd (by have := zfj9 σ n; omega)).mono ?_
  rintro e w2 ⟨rv2, rfl, hn2, hb2⟩
  have S2 : Hid (SoX n0 w2 g (bytesS σ n).2) := S1.out.below hb2
  have N2 : Hid (Nw w.heap.size w2 rv2 (bytesS σ n).1) := ⟨hn2.rd, hn2.fz, fun k hk => by have := hn2.new k hk; have := T1.out.size; omega⟩
  have T2 : Hid (Tch (fun k => k = g) w w2) := T1.out.trans (Tch.of_below (S := fun k => k = g) hb2) (fun _ _ e => e)
  clear hn2 hb2 S1 K1 T1
  go_wp2_with fail
  go_ret
  exact ⟨rv2, rfl, N2.out, S2.out, T2.out⟩
 ·have h0b : (mode == 0) = false := by simp [h0]
  rw [if_neg h0]
  obtain ⟨σ1, hσ1⟩ : ∃ σ1, Hid (askS σ (decide (0 < (n : Int))) = σ1) := ⟨_, rfl⟩
  rw [hσ1.out]
  have HA : Hid (Calls Tryz.prog 68 #[.pointer (some ⟨g, 0, none⟩), .bool (decide (0 < (n : Int)))] w fun e w' => e = .returned (.bool σ1.isSome) /\ SoX n0 w' g σ1 /\ Tch (fun k => k = g) w w') := by
   have := zak9 n0 g σ (decide (0 < (n : Int))) w H.out
   rw [hσ1.out] at this
   exact this
  have hdd : decide (0 < (n : Int)) = decide (0 < n) := by rw [decide_eq_decide]; omega
  rw [hdd] at HA
  clear hdd
  by_cases h1 : mode = 1
  ·subst h1
   rw [if_pos rfl]
   go_enter Tryz.func44, Tryz.ntmps44
   go_wp2_with fail
   refine HA.out.mono ?_
   clear HA
   rintro e w1 ⟨rfl, hs1, ht1⟩
   have S1 : Hid (SoX n0 w1 g σ1) := hs1
   have T1 : Hid (Tch (fun k => k = g) w w1) := ht1
   clear hs1 ht1
   go_wp2_with fail
   refine (zhg9 n0 g σ1 w1 S1.out).mono ?_
   rintro e w2 ⟨rfl, hs2, ht2⟩
   have S2 : Hid (SoX n0 w2 g (oneS σ1).2) := hs2
   have T2 : Hid (Tch (fun k => k = g) w w2) := T1.out.trans ht2 (fun _ _ e => e)
   clear hs2 ht2 S1 T1
   go_wp2_with fail
   refine (zpq9 w2.heap.size (oneS σ1).1 n _ (by simp) hn).mono ?_
   rintro e w3 ⟨rv3, rfl, hn3, hb3⟩
   have hb23 : Below w2.heap.size w2 w3 := ((Below.refl _ _).alloc (Nat.le_refl _) _).trans (hb3.mono (by simp))
   have S3 : Hid (SoX n0 w3 g (oneS σ1).2) := S2.out.below hb23
   have N3 : Hid (Nw w.heap.size w3 rv3 (List.replicate n (oneS σ1).1)) := ⟨hn3.rd, hn3.fz, fun k hk => by have h1 := hn3.new k hk; have h2 := T2.out.size; simp only [World.size_alloc] at h1; omega⟩
   have T3 : Hid (Tch (fun k => k = g) w w3) := T2.out.trans (Tch.of_below (S := fun k => k = g) hb23) (fun _ _ e => e)
   clear hn3 hb3 hb23 S2 T2
   go_wp2_with fail
   go_ret
   exact ⟨rv3, rfl, N3.out, S3.out, T3.out⟩
  ·have h1b : (mode == 1) = false := by simp [h1]
   rw [if_neg h1]
   simp only
   obtain ⟨Ls, hLs⟩ : ∃ Ls, Hid (litS σ1 (n : Int) = Ls) := ⟨_, rfl⟩
   rw [hLs.out]
   obtain ⟨lits, σ2⟩ := Ls
   simp only
   obtain ⟨Ts, hTs⟩ : ∃ Ts, Hid (stpS σ2 (n : Int) = Ts) := ⟨_, rfl⟩
   rw [hTs.out]
   obtain ⟨ps, σ3⟩ := Ts
   simp only
   obtain ⟨Rs, hRs⟩ : ∃ Rs, Hid (runR lits ps (n : Int) = Rs) := ⟨_, rfl⟩
   rw [hRs.out]
   obtain ⟨E, out⟩ := Rs
   simp only
   obtain ⟨wb, hwb⟩ : ∃ wb : Bool, Hid ((E == 0 && (out.length : Int) == (n : Int)) = wb) := ⟨_, rfl⟩
   rw [hwb.out]
   go_enter Tryz.func44, Tryz.ntmps44
   go_wp2_with fail
   refine HA.out.mono ?_
   clear HA
   rintro e w1 ⟨rfl, hs1, ht1⟩
   have S1 : Hid (SoX n0 w1 g σ1) := hs1
   have T1 : Hid (Tch (fun k => k = g) w w1) := ht1
   clear hs1 ht1
   go_wp2_with fail
   refine (zer9 n0 g σ1 (n : Int) w1 S1.out).mono ?_
   rintro e w2 ⟨rv2, rfl, hl2, hs2, ht2⟩
   have hll := zxy9 n S1.out.bys
   rw [hLs.out] at hl2 hs2 hll
   have S2 : Hid (SoX n0 w2 g σ2) := hs2
   have L2 : Hid (Lt g w2 rv2 lits) := hl2
   have T2 : Hid (Tch (fun k => k = g) w w2) := T1.out.trans ht2 (fun _ _ e => e)
   simp only at hll
   clear hs2 hl2 ht2 S1 T1
   go_wp2_with fail
   refine (zij9 n0 g σ2 n w2 S2.out hn (by have := T2.out.size; omega)).mono ?_
   rintro e w3 ⟨rv3, rfl, hr3, hn3, hs3, ht3⟩
   have hpl := zvk9 n S2.out.bys
   rw [hTs.out] at hr3 hs3 hpl
   have S3 : Hid (SoX n0 w3 g σ3) := hs3
   have R3 : Hid (RdS w3 rv3 ps) := hr3
   have L3 : Hid (Lt g w3 rv2 lits) := L2.out.tch ht3
   have T3 : Hid (Tch (fun k => k = g) w w3) := T2.out.trans ht3 (fun _ _ e => e)
   simp only at hpl
   clear hs3 hr3 hn3 ht3 S2 L2 T2
   go_wp2_with fail
   refine (zaan9 rv2 rv3 lits ps (n : Int) w3 L3.out.rd (by omega) R3.out (by omega)).mono ?_
   rintro e w4 ⟨d, rfl, hb4, hf4, ho4⟩
   rw [hRs.out] at ho4 ⊢
   simp only at ho4 ⊢
   have S4 : Hid (SoX n0 w4 g σ3) := S3.out.below hb4
   have N4 : Hid (Nw w.heap.size w4 d out) := Nw.of_owns ho4 (fun k hk => by have := hf4 k hk; have := T3.out.size; omega)
   have M4 : Hid (∀ k, d.ownBlock = some k -> k ≠ g) := fun k hk => by have := hf4 k hk; have := S3.out.lt; omega
   have T4 : Hid (Tch (fun k => k = g) w w4) := T3.out.trans (Tch.of_below (S := fun k => k = g) hb4) (fun _ _ e => e)
   obtain ⟨da, dc, hda, _⟩ := ho4.rd
   have HASK : Hid (Calls Tryz.prog 68 #[.pointer (some ⟨g, 0, none⟩), .bool wb] w4 fun e w' => e = .returned (.bool (askS σ3 wb).isSome) /\ SoX n0 w' g (askS σ3 wb) /\ Tch (fun k => k = g) w4 w') := zak9 n0 g σ3 wb w4 S4.out
   clear hb4 hf4 ho4 S3 L3 T3 R3
   subst hda
   have hcase : (E = 0 /\ wb = ((out.length : Int) == (n : Int))) ∨ ((E == 0) = false /\ wb = false) := by
    by_cases hE : E = 0
    ·left; exact ⟨hE, by rw [<- hwb.out, hE]; rfl⟩
    ·right
     have : (E == 0) = false := by simp [hE]
     exact ⟨this, by rw [<- hwb.out, this]; rfl⟩
   have HW2 : Hid ((E == 0 && (out.length : Int) == (n : Int)) = wb) := hwb
   clear hwb HW2
   rcases hcase with ⟨rfl, rfl⟩ | ⟨hE, rfl⟩
   all_goals
    go_wp2_with fail
    refine HASK.out.mono ?_
    clear HASK
    rintro e w5 ⟨rfl, hs5, ht5⟩
    have S5 : Hid (SoX n0 w5 g (askS σ3 _)) := hs5
    have N5 : Hid (Nw w.heap.size w5 (.slice da out.length dc) out) := N4.out.tch ht5 (fun k hk e => M4.out k hk e)
    have T5 : Hid (Tch (fun k => k = g) w w5) := T4.out.trans ht5 (fun _ _ e => e)
    clear hs5 ht5 S4 N4 T4
    go_wp2_with fail
    go_ret
    exact ⟨.slice da out.length dc, rfl, N5.out, S5.out, T5.out⟩
noncomputable def unpT (σ : Option (List Int)) (x m most : Int) : Int × List Int :=
 if σ.isNone = true ∨ 2 < x then (5, [])
 else if most < m then (11, [])
 else if (sumS (bodyS σ x m.toNat).2).2.isNone = true ∨ 0 < ((sumS (bodyS σ x m.toNat).2).2.getD []).length then (5, [])
 else if (sumS (bodyS σ x m.toNat).2).1 = (crc (bodyS σ x m.toNat).1 : Int) then (0, (bodyS σ x m.toNat).1)
 else (6, [])
noncomputable def unpS (ys : List Int) (most : Int) : Int × List Int :=
 if most < 0 ∨ 65536 < most then (1, []) else unpT (numS (oneS (some ys)).2).2 (oneS (some ys)).1 (numS (oneS (some ys)).2).1 most
def UPost (R : Int × List Int) (w : World) (e : Ending) (w' : World) : Prop :=
 ∃ rv, e = .returned (.tuple #[rv, .int .i64 R.1]) /\ Nw w.heap.size w' rv R.2 /\ Below w.heap.size w w'
theorem UPost.bad {E : Int} {w w' : World} (hb : Below w.heap.size w w') : UPost (E, []) w (.returned (.tuple #[.slice none 0 0, .int .i64 E])) w' := ⟨_, rfl, Nw.nil _ _, hb⟩
theorem zvh9 {σ : Option (List Int)} (h : By (σ.getD [])) : 0 <= (oneS σ).1 /\ (oneS σ).1 <= 255 := by
 cases σ with
 | none => exact ⟨by simp [oneS], by simp [oneS]⟩
 | some l =>
  unfold oneS
  simp only
  split
  ·exact h 0
  ·simp
theorem zke9 (n : Nat) {x : Int} (h : 0 <= x /\ x <= 255) : By (List.replicate n x) := by
 intro i
 rw [List.getD_eq_getElem?_getD, List.getElem?_replicate]
 split
 ·exact h
 ·simp
theorem By.append {xs ys : List Int} (h : By xs) (k : By ys) : By (xs ++ ys) := by
 intro i
 rw [zal9]
 split
 ·exact h i
 ·exact k _
theorem cpy_by (d : Nat) : ∀ (n : Nat) (o : List Int), By o -> By (cpy d n o)
 | 0, o, h => h
 | n + 1, o, h => cpy_by d n _ (h.append (fun i => by
   cases i with
   | zero => exact h _
   | succ i => simp))
theorem rs_by {ls : List Int} {ps : List Sq} {most : Int} (h : By ls) : ∀ k, By (rs ls ps most k).2.2
 | 0 => By.nil
 | k + 1 => by
  have ih := rs_by (ps := ps) (most := most) h k
  simp only [rs]
  split
  ·exact ih
  ·split
   ·exact By.nil
   ·split
    ·exact By.nil
    ·exact cpy_by _ _ _ (ih.append ((h.drop _).take _))
theorem zaae9 {ls : List Int} {ps : List Sq} {most : Int} (h : By ls) : By (runR ls ps most).2 := by
 unfold runR
 split
 ·exact By.nil
 ·split
  ·exact By.nil
  ·split
   ·exact By.nil
   ·exact (rs_by h _).append (h.drop _)
theorem zlc9 {σ : Option (List Int)} (n : Nat) (h : By (σ.getD [])) : By (bytesS σ n).1 := by
 cases σ with
 | none => exact By.nil
 | some l =>
  unfold bytesS
  simp only
  split
  ·exact By.take h n
  ·exact By.nil
theorem zzp9 {σ : Option (List Int)} (h : By (σ.getD [])) : By ((oneS σ).2.getD []) := by
 cases σ with
 | none => exact By.nil
 | some l =>
  unfold oneS
  simp only
  split
  ·exact By.drop h 1
  ·exact By.nil
theorem zaaj9 {σ : Option (List Int)} (h : By (σ.getD [])) : By ((numS σ).2.getD []) := by
 cases σ with
 | none => exact By.nil
 | some l =>
  unfold numS
  simp only
  cases e : numRes l with
  | none => exact By.nil
  | some r => exact By.drop h r.2
theorem zul9 {σ : Option (List Int)} (b : Bool) (h : By (σ.getD [])) : By ((askS σ b).getD []) := by
 cases b with
 | true => exact h
 | false => exact By.nil
theorem zaaa9 {σ : Option (List Int)} (n : Int) (h : By (σ.getD [])) : By (litS σ n).1 := by
 unfold litS
 simp only
 split
 ·split
  ·exact zlc9 _ (zzp9 (zaaj9 h))
  ·split
   ·exact znq9 _ _ _
   ·exact By.nil
 ·exact By.nil
theorem zwc9 {σ : Option (List Int)} (mode : Int) (n : Nat) (h : By (σ.getD [])) : By (bodyS σ mode n).1 := by
 unfold bodyS
 split
 ·exact zlc9 n h
 ·split
  ·exact zke9 n (zvh9 (zul9 _ h))
  ·exact zaae9 (zaaa9 _ (zul9 _ h))
theorem zhp9 (v : Value) (ys : List Int) (most : Int) (w : World) (hr : Rd .u8 w v ys) (hy : By ys) (hl : ys.length <= 140737488355328) (hold : ∀ k, v.ownBlock = some k -> k < w.heap.size) :
  Calls Tryz.prog 21 #[v, .int .i64 most] w fun e w' => UPost (unpS ys most) w e w' := by
 have HR : Hid (Rd .u8 w v ys) := hr
 have HY : Hid (By ys) := hy
 have HOLD : Hid (∀ k, v.ownBlock = some k -> k < w.heap.size) := hold
 obtain ⟨va, vc, hva, _⟩ := hr
 clear hy hold
 unfold unpS
 by_cases h1 : most < 0
 ·rw [if_pos (.inl h1)]
  have h1b : decide (most < 0) = true := by rw [decide_eq_true_eq]; exact h1
  go_enter Tryz.func21, Tryz.ntmps21
  go_wp2_with fail
  go_ret2
  exact UPost.bad (Below.refl _ _)
 by_cases h2 : 65536 < most
 ·rw [if_pos (.inr h2)]
  have h1b : decide (most < 0) = false := by rw [decide_eq_false_iff_not]; exact h1
  go_enter Tryz.func21, Tryz.ntmps21
  go_wp2_with fail
  go_ret2
  exact UPost.bad (Below.refl _ _)
 rw [if_neg (by omega)]
 have h1b : decide (most < 0) = false := by rw [decide_eq_false_iff_not]; exact h1
 have h2b : decide (65536 < most) = false := by rw [decide_eq_false_iff_not]; exact h2
 obtain ⟨As, hAs⟩ : ∃ As, Hid (oneS (some ys) = As) := ⟨_, rfl⟩
 have hab := zvh9 (σ := some ys) HY.out
 rw [hAs.out] at hab ⊢
 obtain ⟨x, σ1⟩ := As
 simp only at hab ⊢
 obtain ⟨Ms, hMs⟩ : ∃ Ms, Hid (numS σ1 = Ms) := ⟨_, rfl⟩
 rw [hMs.out]
 obtain ⟨m0, σ2⟩ := Ms
 simp only
 obtain ⟨R, hR⟩ : ∃ R, Hid (unpT σ2 x m0 most = R) := ⟨_, rfl⟩
 rw [hR.out]
 go_enter Tryz.func21, Tryz.ntmps21
 subst hva
 go_wp2_with fail
 obtain ⟨W0, hW0⟩ : ∃ W0, Hid (w.alloc (.cells #[.slice va ys.length vc, .bool false] 69) = W0) := ⟨_, rfl⟩
 rw [hW0.out]
 obtain ⟨g, hg⟩ : ∃ g, w.heap.size = g := ⟨_, rfl⟩
 rw [hg]
 have HG : Hid (w.heap.size = g) := hg
 have B0 : Hid (Below w.heap.size w W0) := by rw [<- hW0.out]; exact (Below.refl _ _).alloc (Nat.le_refl _) _
 have S0 : Hid (SoX g W0 g (some ys)) := by
  refine ⟨.slice va ys.length vc, ?_, HR.out.below B0.out, HY.out, fun k hk => by have := HOLD.out k hk; omega, Nat.le_refl _, hl⟩
  rw [<- hW0.out, <- hg]
  exact heap_alloc_new w _
 clear hW0 hg HR
 have H1 := zhg9 g g (some ys) W0 S0.out
 rw [hAs.out] at H1
 refine H1.mono ?_
 clear H1
 rintro e w1 ⟨rfl, hs1, ht1⟩
 have S1 : Hid (SoX g w1 g σ1) := hs1
 have B1 : Hid (Below w.heap.size w w1) := B0.out.trans (ht1.below B0.out.size (fun k e => by have := HG.out; omega))
 clear hs1 ht1 S0 B0
 have H2 := zef9 g g σ1 w1 S1.out
 have hmb := zfs9 S1.out.bys
 rw [hMs.out] at H2 hmb
 have H2' : Hid (Calls Tryz.prog 43 #[.pointer (some ⟨g, 0, none⟩)] w1 fun e w' => e = .returned (.int .i64 m0) /\ SoX g w' g σ2 /\ Tch (fun k => k = g) w1 w') := H2
 simp only at hmb
 clear H2
 go_wp2_with fail
 refine H2'.out.mono ?_
 clear H2'
 rintro e w2 ⟨rfl, ⟨lv2, hs2⟩, ht2⟩
 have S2 : Hid (So g w2 g lv2 σ2) := hs2
 have B2 : Hid (Below w.heap.size w w2) := B1.out.trans (ht2.below B1.out.size (fun k e => by have := HG.out; omega))
 have c1 := hs2.c1
 clear hs2 ht2 S1 B1
 have hU := hR.out
 unfold unpT at hU
 cases hσ : σ2 with
 | none =>
  rw [hσ] at c1 hU
  simp only [Option.isNone_none] at c1
  have HE : Hid (R = (5, [])) := by show _ = _; rw [<- hU, if_pos (.inl rfl)]
  clear hU hR hσ S2
  go_wp2_with fail
  go_ret2
  rw [HE.out]
  exact UPost.bad B2.out
 | some l2 =>
  rw [hσ] at c1 hU
  simp only [Option.isNone_some] at c1
  by_cases hx2 : 2 < x
  ·have HE : Hid (R = (5, [])) := by show _ = _; rw [<- hU, if_pos (.inr hx2)]
   have hx2b : decide (2 < x) = true := by rw [decide_eq_true_eq]; exact hx2
   clear hU hR hσ S2
   go_wp2_with fail
   go_ret2
   rw [HE.out]
   exact UPost.bad B2.out
  ·have hx2b : decide (2 < x) = false := by rw [decide_eq_false_iff_not]; exact hx2
   rw [if_neg (by simp [hx2])] at hU
   by_cases hmm : most < m0
   ·have HE : Hid (R = (11, [])) := by show _ = _; rw [<- hU, if_pos hmm]
    have hmmb : decide (most < m0) = true := by rw [decide_eq_true_eq]; exact hmm
    clear hU hR hσ S2
    go_wp2_with fail
    go_ret2
    rw [HE.out]
    exact UPost.bad B2.out
   ·have hmmb : decide (most < m0) = false := by rw [decide_eq_false_iff_not]; exact hmm
    rw [if_neg hmm] at hU
    obtain ⟨m, rfl⟩ := Int.eq_ofNat_of_zero_le hmb.1
    rw [Int.toNat_natCast] at hU
    have S2' : Hid (SoX g w2 g (some l2)) := by rw [<- hσ]; exact ⟨lv2, S2.out⟩
    obtain ⟨bs, hbs⟩ : ∃ bs, Hid (bodyS (some l2) x m = bs) := ⟨_, rfl⟩
    have hby := zwc9 x m S2'.out.bys
    have HTB := zkl9 g g (some l2) x m w2 S2'.out (by omega) (by have := B2.out.size; have := HG.out; omega) (by omega)
    rw [hbs.out] at hU hby HTB
    obtain ⟨out, σ3⟩ := bs
    simp only at hU hby HTB
    obtain ⟨ss, hss⟩ : ∃ ss, Hid (sumS σ3 = ss) := ⟨_, rfl⟩
    rw [hss.out] at hU
    obtain ⟨sm, σ4⟩ := ss
    simp only at hU
    have HU : Hid ((if σ4.isNone = true ∨ 0 < (σ4.getD []).length then (5, []) else if sm = (crc out : Int) then (0, out) else (6, [])) = R) := hU
    have HTB2 : Hid (Calls Tryz.prog 44 #[.pointer (some ⟨g, 0, none⟩), .int .u8 x, .int .i64 (m : Int)] w2 fun e w' => ∃ rv, e = .returned rv /\ Nw w2.heap.size w' rv out /\ SoX g w' g σ3 /\ Tch (fun k => k = g) w2 w') := HTB
    have HBY : Hid (By out) := hby
    have HG2 : Hid (g < w2.heap.size) := S2'.out.lt
    clear hU hR hσ S2 S2' hby HTB
    go_wp2_with fail
    refine HTB2.out.mono ?_
    clear HTB2
    rintro e w3 ⟨rv3, rfl, hn3, hs3, ht3⟩
    have S3 : Hid (SoX g w3 g σ3) := hs3
    have N3 : Hid (Nw w.heap.size w3 rv3 out) := ⟨hn3.rd, hn3.fz, fun k hk => by have := hn3.new k hk; have := B2.out.size; omega⟩
    have M3 : Hid (∀ k, rv3.ownBlock = some k -> k ≠ g) := fun k hk => by have := hn3.new k hk; have := HG2.out; omega
    have B3 : Hid (Below w.heap.size w w3) := B2.out.trans (ht3.below B2.out.size (fun k e => by have := HG.out; omega))
    clear hn3 hs3 ht3 B2 c1
    have H4 := ztm9 g g σ3 w3 S3.out
    rw [hss.out] at H4
    have H4' : Hid (Calls Tryz.prog 45 #[.pointer (some ⟨g, 0, none⟩)] w3 fun e w' => e = .returned (.int .i64 sm) /\ SoX g w' g σ4 /\ Tch (fun k => k = g) w3 w') := H4
    clear H4
    go_wp2_with fail
    refine H4'.out.mono ?_
    clear H4'
    rintro e w4 ⟨rfl, ⟨lv4, hs4⟩, ht4⟩
    have N4 : Hid (Nw w.heap.size w4 rv3 out) := N3.out.tch ht4 (fun k hk e => M3.out k hk e)
    have B4 : Hid (Below w.heap.size w w4) := B3.out.trans (ht4.below B3.out.size (fun k e => by have := HG.out; omega))
    have d0 := hs4.c0
    have d1 := hs4.c1
    obtain ⟨la, lc, hla, _⟩ := hs4.rd
    obtain ⟨L4, hL4⟩ : ∃ L4, Hid ((σ4.getD []).length = L4) := ⟨_, rfl⟩
    rw [hL4.out] at hla HU
    clear hs4 ht4 S3 N3 B3
    subst hla
    cases hσ4 : σ4 with
    | none =>
     rw [hσ4] at d1 HU
     simp only [Option.isNone_none] at d1
     have HE : Hid (R = (5, [])) := by show _ = _; rw [<- HU.out, if_pos (.inl rfl)]
     clear HU hσ4
     go_wp2_with fail
     go_ret2
     rw [HE.out]
     exact UPost.bad B4.out
    | some l4 =>
     rw [hσ4] at d1 HU
     simp only [Option.isNone_some] at d1
     by_cases hL : 0 < L4
     ·have HE : Hid (R = (5, [])) := by show _ = _; rw [<- HU.out, if_pos (.inr hL)]
      clear HU hσ4
      go_wp2_with fail
      go_ret2
      rw [HE.out]
      exact UPost.bad B4.out
     ·have hL0 : L4 = 0 := by omega
      subst hL0
      have hU2 := HU.out
      rw [if_neg (by simp)] at hU2
      clear HU hσ4
      have HU3 : Hid ((if sm = (crc out : Int) then (0, out) else (6, [])) = R) := hU2
      clear hU2
      go_wp2_with fail
      refine (zvc9 rv3 out w4 N4.out.rd HBY.out).mono ?_
      rintro e w5 ⟨rfl, rfl⟩
      by_cases hc : sm = (crc out : Int)
      ·have HE : Hid (R = (0, out)) := by show _ = _; rw [<- HU3.out, if_pos hc]
       have hcb : (sm != (crc out : Int)) = false := by simp [hc]
       clear HU3 hc
       go_wp2_with fail
       go_ret2
       rw [HE.out]
       exact ⟨rv3, rfl, N4.out, B4.out⟩
      ·have HE : Hid (R = (6, [])) := by show _ = _; rw [<- HU3.out, if_neg hc]
       have hcb : (sm != (crc out : Int)) = true := by simp [hc]
       clear HU3 hc
       go_wp2_with fail
       go_ret2
       rw [HE.out]
       exact UPost.bad B4.out
end Go.Proofs.YtobenjkacpipeaaGreat
