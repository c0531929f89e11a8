/-
  Places are linked.
-/
import Derived.Test.YtghokdmfhifgjaaMSame
namespace Go.Proofs.Ytghokdmfhifgjaa
open Go.RowKit Pl
set_option linter.unusedVariables false

/-- The heads and the chain are right up to place k. -/
def Lk (ds : List Int) (k : Nat) (h : Nat → Int) (ad : List Int) : Prop := (∀ s, s < 4096 → h s = (pv ds s k : Int)) ∧ ∀ p, p < k → ad.getD p 0 = (pv ds (sl ds p) p : Int)

theorem Lk.step {ds : List Int} {k : Nat} {h : Nat → Int} {ad : List Int} (H : Lk ds k h ad) (hk : k < ad.length) : Lk ds (k + 1) (updh h (sl ds k) ((k : Int) + 1)) (ad.set k (h (sl ds k))) := by
  refine ⟨fun s hs => ?_, fun p hp => ?_⟩
  · simp only [updh, pv]
    by_cases e : s = sl ds k
    · rw [if_pos e, if_pos e.symm]; push_cast; rfl
    · rw [if_neg e, if_neg (fun e2 => e e2.symm)]; exact H.1 s hs
  · rw [List.getD_eq_getElem?_getD, List.getElem?_set]
    by_cases e : k = p
    · subst e
      rw [if_pos rfl, if_pos hk]
      exact H.1 _ (sl_lt _ _)
    · rw [if_neg e, ← List.getD_eq_getElem?_getD]
      exact H.2 p (by omega)

set_option maxRecDepth 100000 in
set_option maxHeartbeats 2000000 in
theorem link_any (F G n b o c at_ k0 : Nat) (win : Int) (h : Nat → Int) (ad ds : List Int) (w : World) (H : Fd w F G n (.slice (some ⟨b, o, none⟩) n c) win k0 h ad) (D : Dt w b o n ds) (L : Lk ds k0 h ad) (hb : b ≠ F ∧ b ≠ G) (had : ad.length = n) (hn : n ≤ 65536) (hc : n ≤ c) (hc2 : c ≤ 9223372036854775807) (ha : at_ + 4 ≤ n) (h0 : k0 ≤ at_) :
    Calls Try.prog 22 #[.pointer (some ⟨F, 0, none⟩), .int .i64 at_] w fun e w' => (∃ v, e = .returned v) ∧ (∃ h ad, Fd w' F G n (.slice (some ⟨b, o, none⟩) n c) win at_ h ad ∧ Lk ds at_ h ad ∧ ad.length = n) ∧ Tch (fun j => j = F ∨ j = G) w w' := by
  have HF : Hid (Fd w F G n (.slice (some ⟨b, o, none⟩) n c) win k0 h ad) := H
  have HD : Hid (Dt w b o n ds) := D
  have HL : Hid (Lk ds k0 h ad) := L
  have HA : Hid (ad.length = n) := had
  have HBB : Hid (b ≠ F ∧ b ≠ G) := hb
  clear H D L hb had
  go_enter Try.func22, Try.ntmps22
  go_wp2_with fail
  go_loopw [4] (fun s wr => ∃ (k : Nat) (h : Nat → Int) (ad : List Int), k ≤ at_ ∧ Hid (Fd wr F G n (.slice (some ⟨b, o, none⟩) n c) win k h ad) ∧ Hid (Lk ds k h ad) ∧ Hid (ad.length = n) ∧ Hid (Tch (fun j => j = F ∨ j = G) w wr)) (fun _ wr => at_ - (intOf ((wr.cell? ⟨F, 2, none⟩).getD undef)).toNat)
  case atStart => exact ⟨k0, h, ad, h0, HF, HL, HA, Tch.refl _ _⟩
  case round =>
    clear HF HL HA
    obtain ⟨k, h, ad, hk, HF, HL, HA, HT⟩ := hrel
    have c2 := HF.out.c2
    have HC2 : Hid (wr.cell? ⟨F, 2, none⟩ = some (.int .i64 (k : Int))) := c2
    by_cases hlt : k < at_
    · obtain ⟨s, hs⟩ : ∃ s, Hid (sl ds k = s) := ⟨_, rfl⟩
      have hs4 : s < 4096 := by rw [← hs.out]; exact sl_lt _ _
      have HSL : Hid (Calls Try.prog 23 #[.pointer (some ⟨F, 0, none⟩), .int .i64 k] wr fun e w' => e = .returned (.int .i64 s) ∧ ∃ m, w' = wr.drewN m) := by
        have := slot_any F G n b o c k win k h ad ds wr HF.out (HD.out.tch HT.out (fun e => by have := HBB.out; rcases e with e | e <;> simp [e] at this)) hn hc hc2 (by omega)
        rw [hs.out] at this
        exact this
      go_wp2_with fail
      refine HSL.out.mono ?_
      clear HSL
      rintro e w2 ⟨rfl, q2, hq2⟩
      have hb2 : Below wr.heap.size wr w2 := by rw [hq2]; exact Below.of_drewN _ _ _
      clear hq2
      have F2 : Hid (Fd w2 F G n (.slice (some ⟨b, o, none⟩) n c) win k h ad) := HF.out.below hb2
      have T2 : Hid (Tch (fun j => j = F ∨ j = G) w w2) := HT.out.trans (Tch.of_below (S := fun j => j = F ∨ j = G) hb2) (fun _ _ e => e)
      have e2 := F2.out.c2
      have e4 := F2.out.c4
      obtain ⟨x, hx⟩ : ∃ x, Hid (h s = x) := ⟨_, rfl⟩
      have eh := F2.out.ch s hs4
      rw [hx.out] at eh
      obtain ⟨_, _, e3, _, _, _, q3, f3⟩ := F2.out.own.shape (by rw [HA.out]; omega)
      rw [HA.out] at e3
      cases e3
      have ek := q3 k (by rw [HA.out]; omega)
      obtain ⟨y0, hy0⟩ : ∃ y0, ad.getD k 0 = y0 := ⟨_, rfl⟩
      rw [hy0] at ek
      have fk := f3 k
      have hkI : (k : Int) < (n : Int) := by omega
      have hsI : (s : Int) < 4096 := by omega
      clear hb2 q3 f3 hy0 c2 HF HT
      go_wp2_with fail
      go_region
      have F3 : Hid (Fd (w2.setCell ⟨G, k, none⟩ (.int .i64 x)).drew F G n (.slice (some ⟨b, o, none⟩) n c) win k h (ad.set k x)) := (F2.out.setA k x).below ((Below.refl _ _).drew)
      have T3 : Hid (Tch (fun j => j = F ∨ j = G) w (w2.setCell ⟨G, k, none⟩ (.int .i64 x)).drew) := (Tch.setCell T2.out (p := ⟨G, k, none⟩) (fun _ => .inr rfl) _).drew
      obtain ⟨w3, hw3⟩ : ∃ w3, Hid ((w2.setCell ⟨G, k, none⟩ (.int .i64 x)).drew = w3) := ⟨_, rfl⟩
      rw [hw3.out] at F3 T3 ⊢
      have r2 := F3.out.c2
      have rh := F3.out.ch s hs4
      have rf := F3.out.fz (3 + s)
      clear e2 e4 eh ek fk F2 T2
      go_wp2_with fail
      go_region
      have F4 : Hid (Fd (w3.setCell ⟨F, 3 + s, none⟩ (.int .i64 ((k : Int) + 1))).drew F G n (.slice (some ⟨b, o, none⟩) n c) win k (updh h s ((k : Int) + 1)) (ad.set k x)) := (F3.out.setH s hs4 _).below ((Below.refl _ _).drew)
      have T4 : Hid (Tch (fun j => j = F ∨ j = G) w (w3.setCell ⟨F, 3 + s, none⟩ (.int .i64 ((k : Int) + 1))).drew) := (Tch.setCell T3.out (p := ⟨F, 3 + s, none⟩) (fun _ => .inl rfl) _).drew
      obtain ⟨w4, hw4⟩ : ∃ w4, Hid ((w3.setCell ⟨F, 3 + s, none⟩ (.int .i64 ((k : Int) + 1))).drew = w4) := ⟨_, rfl⟩
      rw [hw4.out] at F4 T4 ⊢
      have s2 := F4.out.c2
      have sf := F4.out.fz 2
      clear r2 rh rf F3 T3
      go_wp2_with fail
      have F5 : Hid (Fd (w4.setCell ⟨F, 2, none⟩ (.int .i64 ((k : Int) + 1))) F G n (.slice (some ⟨b, o, none⟩) n c) win ((k : Int) + 1) (updh h s ((k : Int) + 1)) (ad.set k x)) := F4.out.setL _
      have T5 : Hid (Tch (fun j => j = F ∨ j = G) w (w4.setCell ⟨F, 2, none⟩ (.int .i64 ((k : Int) + 1)))) := Tch.setCell T4.out (p := ⟨F, 2, none⟩) (fun _ => .inl rfl) _
      have L5 : Hid (Lk ds (k + 1) (updh h s ((k : Int) + 1)) (ad.set k x)) := by
        have := HL.out.step (by rw [HA.out]; omega)
        rw [hs.out, hx.out] at this
        exact this
      have t2 := F5.out.c2
      go_roundw
      case rel => exact ⟨k + 1, _, _, by omega, by push_cast; exact F5, L5, by show _ = _; rw [List.length_set]; exact HA.out, T5⟩
      case measure => rw [t2, HC2.out]; simp only [Option.getD_some, intOf]; omega
    · obtain rfl : k = at_ := by omega
      go_wp2_with fail
      go_end0
      exact ⟨⟨_, rfl⟩, ⟨h, ad, HF.out, HL.out, HA.out⟩, HT.out⟩
end Go.Proofs.Ytghokdmfhifgjaa
