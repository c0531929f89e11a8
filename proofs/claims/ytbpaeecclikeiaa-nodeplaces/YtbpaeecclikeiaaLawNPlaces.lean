/-
  NodePlaces: where a key stands, or goes, is told as the document says: for every node and every key the law answers true.
-/
import Derived.Test.YtbpaeecclikeiaaNLives
import Derived.Test.YtbpaeecclikeiaaNOf
import Derived.Deep.RegionHeld3
namespace Go.Proofs.Ytbpaeecclikeiaa
open Go.RowKit Pl
set_option linter.unusedVariables false
set_option linter.unusedSimpArgs false
set_option maxRecDepth 100000

set_option maxHeartbeats 1000000 in
theorem nodePlaces_walk (n : Nd) (u1 u2 u3 : Value) (key : ByteArray) (w : World) (h : Nn w n u1 u2 u3) (hs : Sm n) :
    Calls Try.prog 5 #[nod n.lf u1 u2 u3, .string key] w fun e w' => e = .returned (.bool true) ∧ Below w.heap.size w w' := by
  obtain ⟨a1, c1, a2, c2, a3, c3, rfl, rfl, rfl, ⟨l1, l2, l3, l4, l5, l6⟩, _, _, _⟩ := h.out
  have H := hideN h
  have HS := hideN hs
  obtain ⟨L1, hL1⟩ : ∃ L, Hid (n.ks.length = L) := ⟨_, rfl⟩
  obtain ⟨L2, hL2⟩ : ∃ L, Hid (n.vs.length = L) := ⟨_, rfl⟩
  obtain ⟨L3, hL3⟩ : ∃ L, Hid (n.kd.length = L) := ⟨_, rfl⟩
  rw [hL1.out] at H l1 ⊢
  rw [hL2.out] at H l3 ⊢
  rw [hL3.out] at H l5 ⊢
  obtain ⟨lf, hlf⟩ : ∃ lf, Hid (n.lf = lf) := ⟨_, rfl⟩
  rw [hlf.out]
  unfold nod
  obtain ⟨W1, hW1⟩ : ∃ W1, w.alloc (.cells #[.bool lf, .slice a1 L1 c1, .slice a2 L2 c2, .slice a3 L3 c3] 25) = W1 := ⟨_, rfl⟩
  have B1 : Hid (Below w.heap.size w W1) := by rw [← hW1]; exact below_alloc _ _
  have V1 : Hid (Nb W1 25 w.heap.size lf (.slice a1 L1 c1) (.slice a2 L2 c2) (.slice a3 L3 c3)) := by rw [← hW1]; exact nb_new _ _ _ _ _ _
  have H1 : Hid (Nn W1 n (.slice a1 L1 c1) (.slice a2 L2 c2) (.slice a3 L3 c3)) := H.out.below B1.out
  have HOF : Hid (∀ W, Below W1.heap.size W1 W → Calls Try.prog 9 #[.agg #[.bool lf, .slice a1 L1 c1, .slice a2 L2 c2, .slice a3 L3 c3]] W fun e w' => (∃ v1 v2 v3, e = .returned (nod lf v1 v2 v3) ∧ Nn w' n v1 v2 v3) ∧ Below W.heap.size W w') := fun W hb => by
    have := of_any n _ _ _ W (H1.out.below hb) HS.out
    rw [hlf.out] at this
    exact this
  obtain ⟨r, hr⟩ : ∃ r : Nat, Hid (plc n key n.ks.length = r) := ⟨_, rfl⟩
  have HPL : Hid (∀ W v1 v2 v3, Nn W n v1 v2 v3 → Calls Try.prog 21 #[nod lf v1 v2 v3, .string key] W fun e w' => e = .returned (.int .i64 (r : Int)) ∧ Below W.heap.size W w') := fun W v1 v2 v3 hn => by
    have := place_any n _ _ _ key W hn HS.out
    rw [hlf.out, hr.out] at this
    exact this
  have HRP : Hid (∀ W, Below W1.heap.size W1 W → Calls Try.prog 22 #[.agg #[.bool lf, .slice a1 L1 c1, .slice a2 L2 c2, .slice a3 L3 c3], .string key] W fun e w' => e = .returned (.int .i64 (r : Int)) ∧ Below W.heap.size W w') := fun W hb => by
    have := refPlace_any n _ _ _ key W (H1.out.below hb) HS.out
    rw [hlf.out, hr.out] at this
    exact this
  have hS : W1.drew.cell? ⟨w.heap.size, 0, none⟩ = some (.bool lf) ∧ W1.drew.cell? ⟨w.heap.size, 1, none⟩ = some (.slice a1 L1 c1) ∧ W1.drew.cell? ⟨w.heap.size, 2, none⟩ = some (.slice a2 L2 c2) ∧ W1.drew.cell? ⟨w.heap.size, 3, none⟩ = some (.slice a3 L3 c3) := ⟨V1.out.c0, V1.out.c1, V1.out.c2, V1.out.c3⟩
  have p0 := V1.out.c0
  have p1 := V1.out.c1
  have p2 := V1.out.c2
  have p3 := V1.out.c3
  have HST : Hid (∀ W, Below W1.heap.size W1 W → W.cell? ⟨w.heap.size, 0, none⟩ = some (.bool lf) ∧ W.cell? ⟨w.heap.size, 1, none⟩ = some (.slice a1 L1 c1) ∧ W.cell? ⟨w.heap.size, 2, none⟩ = some (.slice a2 L2 c2) ∧ W.cell? ⟨w.heap.size, 3, none⟩ = some (.slice a3 L3 c3)) := fun W hb => by have := V1.out.below hb; exact ⟨this.c0, this.c1, this.c2, this.c3⟩
  have h0 : Below W1.heap.size W1 W1.drew := (Below.refl _ _).drew
  have ee : ((r : Int) == (r : Int)) = true := by simp
  clear h hs H
  go_enter Try.func5, Try.ntmps5
  go_wp2_with fail
  clear hW1
  go_region_held3 (fun w' => w'.cell? ⟨w.heap.size, 0, none⟩ = some (.bool lf) ∧ w'.cell? ⟨w.heap.size, 1, none⟩ = some (.slice a1 L1 c1) ∧ w'.cell? ⟨w.heap.size, 2, none⟩ = some (.slice a2 L2 c2) ∧ w'.cell? ⟨w.heap.size, 3, none⟩ = some (.slice a3 L3 c3)) (first | exact hS5 | exact hS4 | exact hS3 | exact hS2 | exact hS | go_keep)
    (first
      | (go_at_call 9; refine (HOF.out _ (by first | exact hb3 | exact h0)).mono ?_; rintro e W2 ⟨⟨v1, v2, v3, rfl, n2⟩, b2⟩; have hb2 : Below W1.heap.size W1 W2 := (by first | exact hb3.trans (b2.mono hb3.size) | exact h0.trans (b2.mono h0.size)); have hS2 := HST.out W2 hb2)
      | (go_at_call 21; refine (HPL.out _ v1 v2 v3 (by first | exact n2 | exact n2.below b3)).mono ?_; rintro e W4 ⟨rfl, b4⟩; have hb4 : Below W1.heap.size W1 W4 := (by first | exact hb2.trans (b4.mono hb2.size) | exact hb3.trans (b4.mono hb3.size)); have hS4 := HST.out W4 hb4)
      | (go_at_call 22; refine (HRP.out _ (by first | exact hb4 | exact hb2 | exact h0)).mono ?_; rintro e W3 ⟨rfl, b3⟩; have hb3 : Below W1.heap.size W1 W3 := (by first | exact hb4.trans (b3.mono hb4.size) | exact hb2.trans (b3.mono hb2.size) | exact h0.trans (b3.mono h0.size)); have hS3 := HST.out W3 hb3)
      | (go_at_call 18; refine (lives_anyN _).mono ?_; rintro e W5 ⟨rfl, b5⟩; have hb5 : Below W1.heap.size W1 W5 := (by first | exact hb4.trans (b5.mono hb4.size) | exact hb3.trans (b5.mono hb3.size)); have hS5 := HST.out W5 hb5))
  all_goals
    have BF : Hid (Below w.heap.size w W5) := B1.out.trans (hb5.mono B1.out.size)
    clear hS hS2 hS3 hS4 hS5
    go_wp2_with fail
    go_ret
    exact ⟨rfl, BF.out⟩
end Go.Proofs.Ytbpaeecclikeiaa
