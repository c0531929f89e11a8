/-
  The layer's examples.
-/
import Derived.Test.YtbpaeecclikeiaaNRnd
import Derived.Test.YtbpaeecclikeiaaNPut
import Derived.Test.YtbpaeecclikeiaaNPlace
namespace Go.Proofs.Ytbpaeecclikeiaa
open Go.RowKit Pl
set_option linter.unusedVariables false
set_option linter.unusedSimpArgs false
set_option maxRecDepth 100000

def exA : Nd := ⟨true, [⟨#[97]⟩, ⟨#[98]⟩], [⟨#[49]⟩, ⟨#[]⟩], []⟩
def exI : Nd := ⟨false, [⟨#[]⟩, ⟨#[99]⟩], [], [50, 51]⟩
theorem exA_sm : Sm exA := by
  refine ⟨fun i => ?_, fun i => ?_, by decide, by decide, by decide⟩
  · exact Nat.le_trans (getD_size (m := 1) (ss := exA.ks) (by decide) i) (by decide)
  · exact Nat.le_trans (getD_size (m := 1) (ss := exA.vs) (by decide) i) (by decide)
theorem exI_sm : Sm exI := by
  refine ⟨fun i => ?_, fun i => ?_, by decide, by decide, by decide⟩
  · exact Nat.le_trans (getD_size (m := 1) (ss := exI.ks) (by decide) i) (by decide)
  · exact Nat.le_trans (getD_size (m := 1) (ss := exI.vs) (by decide) i) (by decide)
theorem exA_sz : szN exA exA.ks.length = 8 := by rfl
theorem lt_ab : Op.bytesLess (ByteArray.toList ⟨#[97]⟩) (ByteArray.toList ⟨#[98]⟩) = true := by
  rw [ByteArray.toList_eq, ByteArray.toList_eq]; decide
theorem ne_a : ((ByteArray.toList ⟨#[97]⟩) == []) = false := by rw [ByteArray.toList_eq]; decide
theorem ne_b : ((ByteArray.toList ⟨#[98]⟩) == []) = false := by rw [ByteArray.toList_eq]; decide
theorem exA_may : mayN exA = true := by
  rw [mayN_iff, may_leaf rfl]
  refine ⟨by decide, by rw [exA_sz, W_small (by decide)]; decide, ?_, rfl, rfl, ?_⟩
  · rw [keysN_iff]
    intro i hi
    have hi2 : i < 2 := hi
    match i, hi2 with
    | 0, _ => exact ⟨by decide, fun h => absurd h (by decide), fun _ => by rw [eqs_nil]; exact ne_a⟩
    | 1, _ => exact ⟨by decide, fun _ => lt_ab, fun _ => by rw [eqs_nil]; exact ne_b⟩
  · rw [allS_iff]
    intro i hi
    have hi2 : i < 2 := hi
    match i, hi2 with
    | 0, _ => decide
    | 1, _ => decide
theorem exA_rl : Rl exA := may_real (mayN_iff.1 exA_may) (by decide)
theorem exA_get : getN 1 (encN exA exA.ks.length) = some exA := get_enc exA_may exA_rl
theorem exI_d : plc exI ⟨#[100]⟩ exI.ks.length = 1 := by
  have h1 : (lts (kA exI 1) ⟨#[100]⟩ || eqs (kA exI 1) ⟨#[100]⟩) = true := by
    unfold lts eqs kA exI; rw [ByteArray.toList_eq, ByteArray.toList_eq]; decide
  show plc exI ⟨#[100]⟩ (1 + 1) = 1
  simp only [plc]
  rw [if_neg (by decide), if_pos h1]
theorem exI_a : plc exI ⟨#[97]⟩ exI.ks.length = 0 := by
  have h1 : (lts (kA exI 1) ⟨#[97]⟩ || eqs (kA exI 1) ⟨#[97]⟩) = false := by
    unfold lts eqs kA exI; rw [ByteArray.toList_eq, ByteArray.toList_eq]; decide
  have h0 : (lts (kA exI 0) ⟨#[97]⟩ || eqs (kA exI 0) ⟨#[97]⟩) = true := by
    unfold lts eqs kA exI; rw [ByteArray.toList_eq, ByteArray.toList_eq]; decide
  show plc exI ⟨#[97]⟩ (0 + 1 + 1) = 0
  simp only [plc]
  rw [if_neg (by decide), if_neg (by rw [h1]; decide), if_neg (by decide), if_pos h0]
/-- A slice that was made with what it holds. -/
theorem rdV_new (w : World) (cs : List Value) (e : TypeId) (h : cs.length ≤ 100) : RdV (w.alloc (.cells cs.toArray e)) (.slice (some ⟨w.heap.size, 0, none⟩) cs.length cs.length) cs :=
  ⟨_, _, rfl, Nat.le_refl _, by unfold maxLen; omega, (fun e => by cases e), .inr ⟨w.heap.size, 0, rfl, fun i c hc => by rw [Nat.zero_add, cell_of_row _ w.heap.size i _ _ (0, 0) (heap_alloc_new w _), List.getElem?_toArray]; exact hc⟩⟩

set_option maxHeartbeats 1000000 in
theorem lives_anyN (w : World) : Calls Try.prog 18 #[] w fun e w' => e = .returned (.bool true) ∧ Below w.heap.size w w' := by
  obtain ⟨W1, hW1⟩ : ∃ W1, w.alloc (.cells #[.string ⟨#[97]⟩, .string ⟨#[98]⟩] 9) = W1 := ⟨_, rfl⟩
  obtain ⟨W2, hW2⟩ : ∃ W2, W1.alloc (.cells #[.string ⟨#[49]⟩, .string ⟨#[]⟩] 9) = W2 := ⟨_, rfl⟩
  have b1 : Below w.heap.size w W1 := by rw [← hW1]; exact below_alloc _ _
  have b2 : Below W1.heap.size W1 W2 := by rw [← hW2]; exact below_alloc _ _
  have b3 : Below W2.heap.size W2 (W2.alloc (.cells #[.bool true, .slice (some ⟨w.heap.size, 0, none⟩) 2 2, .slice (some ⟨W1.heap.size, 0, none⟩) 2 2, .slice none 0 0] 26)) := below_alloc _ _
  have r1 : RdV W1 (.slice (some ⟨w.heap.size, 0, none⟩) 2 2) (strs exA.ks) := by rw [← hW1]; exact rdV_new w (strs exA.ks) _ (by decide)
  have r2 : RdV W2 (.slice (some ⟨W1.heap.size, 0, none⟩) 2 2) (strs exA.vs) := by rw [← hW2]; exact rdV_new W1 (strs exA.vs) _ (by decide)
  have N3 : Hid (Nn (W2.alloc (.cells #[.bool true, .slice (some ⟨w.heap.size, 0, none⟩) 2 2, .slice (some ⟨W1.heap.size, 0, none⟩) 2 2, .slice none 0 0] 26)) exA (.slice (some ⟨w.heap.size, 0, none⟩) 2 2) (.slice (some ⟨W1.heap.size, 0, none⟩) 2 2) (.slice none 0 0)) := ⟨(r1.below b2).below b3, r2.below b3, rdV_nil _⟩
  have V3 : Hid (Nb (W2.alloc (.cells #[.bool true, .slice (some ⟨w.heap.size, 0, none⟩) 2 2, .slice (some ⟨W1.heap.size, 0, none⟩) 2 2, .slice none 0 0] 26)) 26 W2.heap.size true (.slice (some ⟨w.heap.size, 0, none⟩) 2 2) (.slice (some ⟨W1.heap.size, 0, none⟩) 2 2) (.slice none 0 0)) := nb_new _ _ _ _ _ _
  have B3 : Hid (Below w.heap.size w (W2.alloc (.cells #[.bool true, .slice (some ⟨w.heap.size, 0, none⟩) 2 2, .slice (some ⟨W1.heap.size, 0, none⟩) 2 2, .slice none 0 0] 26))) := (b1.trans (b2.mono b1.size)).trans (b3.mono (by have := b1.size; have := b2.size; omega))
  have p0 := V3.out.c0
  have p1 := V3.out.c1
  have p2 := V3.out.c2
  have p3 := V3.out.c3
  have HP := hideN (put_ok exA _ _ _ _ N3.out exA_sm exA_may)
  unfold nod blN at HP
  have HBY := hideN (enc_by exA_rl _ (Nat.le_refl _))
  have HGT := hideN exA_get
  have HLE : Hid ((encN exA exA.ks.length).length = 8) := by show _ = _; rw [enc_len exA_rl (Nat.le_refl _), exA_sz]
  obtain ⟨T, hT⟩ : ∃ T, Hid (encN exA exA.ks.length = T) := ⟨_, rfl⟩
  rw [hT.out] at HP HBY HGT HLE
  have HK : Hid (kdN exA.lf = 1) := rfl
  rw [HK.out] at HP
  have HLF : Hid (exA.lf = true) := rfl
  rw [HLF.out] at HP
  clear b1 b2 b3 r1 r2
  go_enter Try.func18, Try.ntmps18
  go_wp2_with (refine wpList_store_newD _ rfl 26 (.tmp 1) (.tmp 9) rfl _ #[.bool true, .slice (some ⟨w.heap.size, 0, none⟩) 2 2, .slice (some ⟨W1.heap.size, 0, none⟩) 2 2, .slice none 0 0] ?h1 ?h2 inf_nod rfl rfl ?_; (case h1 => rfl); (case h2 => rfl); skip)
  refine HP.out.mono ?_
  rintro e w4 ⟨⟨bv, rfl, r4⟩, b4⟩
  obtain ⟨ba, bc, e4, _⟩ := id r4
  rw [HLE.out] at e4
  subst e4
  have N4 := hideN (N3.out.below b4)
  have V4 := hideN (V3.out.below b4)
  have B4 : Hid (Below w.heap.size w w4) := B3.out.trans (b4.mono B3.out.size)
  obtain ⟨W5, hW5⟩ : ∃ W5, w4.alloc (.cells #[.int .i64 1, .slice ba 8 bc] 34) = W5 := ⟨_, rfl⟩
  have b5 : Below w4.heap.size w4 W5 := by rw [← hW5]; exact below_alloc _ _
  have N5 := hideN (N4.out.below b5)
  have V5 := hideN (V4.out.below b5)
  have B5 : Hid (Below w.heap.size w W5) := B4.out.trans (b5.mono B4.out.size)
  have K5 : Hid (Kb W5 w4.heap.size 1 (.slice ba 8 bc)) := by rw [← hW5]; exact kb_new _ _ _
  have HG := hideN (get_any 1 (.slice ba 8 bc) T W5 (r4.below b5) HBY.out)
  unfold blN at HG
  have k0 := K5.out.c0
  have k1 := K5.out.c1
  clear r4 b4 b5 p0 p1 p2 p3 hW1 hW2 HP N3 V3 B3 N4 V4 B4
  go_wp2_with fail
  refine HG.out.mono ?_
  rintro e w6 ⟨h6, b6⟩
  rw [HGT.out] at h6
  rcases h6 with ⟨n6, g1, g2, g3, en, rfl, n6r⟩ | ⟨h, _⟩
  rotate_left
  · cases h
  obtain rfl := Option.some.inj en
  have N6 := hideN (N5.out.below b6)
  have V6 := hideN (V5.out.below b6)
  have K6 := hideN (K5.out.below b6)
  have B6 : Hid (Below w.heap.size w w6) := B5.out.trans (b6.mono B5.out.size)
  obtain ⟨a1, c1, a2, c2, a3, c3, rfl, rfl, rfl, _, _, _, _⟩ := n6r.out
  have hk2 : exA.ks.length = 2 := rfl
  have hv2 : exA.vs.length = 2 := rfl
  have hd2 : exA.kd.length = 0 := rfl
  rw [hk2, hv2, hd2] at n6r
  rw [hk2, hv2, hd2, HLF.out]
  have M6 := hideN n6r
  unfold nod
  obtain ⟨W7, hW7⟩ : ∃ W7, w6.alloc (.cells #[.bool true, .slice a1 2 c1, .slice a2 2 c2, .slice a3 0 c3] 26) = W7 := ⟨_, rfl⟩
  obtain ⟨X1, hX1⟩ : ∃ X1, W7.alloc (.cells #[.string ⟨#[]⟩, .string ⟨#[99]⟩] 9) = X1 := ⟨_, rfl⟩
  obtain ⟨X2, hX2⟩ : ∃ X2, X1.alloc (.cells #[.int .i64 50, .int .i64 51] 3) = X2 := ⟨_, rfl⟩
  have b7 : Below w6.heap.size w6 W7 := by rw [← hW7]; exact below_alloc _ _
  have d1 : Below W7.heap.size W7 X1 := by rw [← hX1]; exact below_alloc _ _
  have d2 : Below X1.heap.size X1 X2 := by rw [← hX2]; exact below_alloc _ _
  have d3 : Below X2.heap.size X2 (X2.alloc (.cells #[.bool false, .slice (some ⟨W7.heap.size, 0, none⟩) 2 2, .slice none 0 0, .slice (some ⟨X1.heap.size, 0, none⟩) 2 2] 26)) := below_alloc _ _
  have D7 : Below W7.heap.size W7 (X2.alloc (.cells #[.bool false, .slice (some ⟨W7.heap.size, 0, none⟩) 2 2, .slice none 0 0, .slice (some ⟨X1.heap.size, 0, none⟩) 2 2] 26)) := (d1.trans (d2.mono d1.size)).trans (d3.mono (by have := d1.size; have := d2.size; omega))
  have D6 : Below w6.heap.size w6 (X2.alloc (.cells #[.bool false, .slice (some ⟨W7.heap.size, 0, none⟩) 2 2, .slice none 0 0, .slice (some ⟨X1.heap.size, 0, none⟩) 2 2] 26)) := b7.trans (D7.mono b7.size)
  have s1 : RdV X1 (.slice (some ⟨W7.heap.size, 0, none⟩) 2 2) (strs exI.ks) := by rw [← hX1]; exact rdV_new W7 (strs exI.ks) _ (by decide)
  have s2 : RdV X2 (.slice (some ⟨X1.heap.size, 0, none⟩) 2 2) (nums exI.kd) := by rw [← hX2]; exact rdV_new X1 (nums exI.kd) _ (by decide)
  have NI : Hid (Nn (X2.alloc (.cells #[.bool false, .slice (some ⟨W7.heap.size, 0, none⟩) 2 2, .slice none 0 0, .slice (some ⟨X1.heap.size, 0, none⟩) 2 2] 26)) exI (.slice (some ⟨W7.heap.size, 0, none⟩) 2 2) (.slice none 0 0) (.slice (some ⟨X1.heap.size, 0, none⟩) 2 2)) := ⟨(s1.below d2).below d3, rdV_nil _, s2.below d3⟩
  have VI : Hid (Nb (X2.alloc (.cells #[.bool false, .slice (some ⟨W7.heap.size, 0, none⟩) 2 2, .slice none 0 0, .slice (some ⟨X1.heap.size, 0, none⟩) 2 2] 26)) 26 X2.heap.size false (.slice (some ⟨W7.heap.size, 0, none⟩) 2 2) (.slice none 0 0) (.slice (some ⟨X1.heap.size, 0, none⟩) 2 2)) := nb_new _ _ _ _ _ _
  have Vm : Nb W7 26 w6.heap.size true (.slice a1 2 c1) (.slice a2 2 c2) (.slice a3 0 c3) := by rw [← hW7]; exact nb_new _ _ _ _ _ _
  have VM := hideN (Vm.below D7)
  have KX := hideN (K6.out.below D6)
  have VA := hideN (V6.out.below D6)
  have NA := hideN (N6.out.below D6)
  have BX : Hid (Below w.heap.size w (X2.alloc (.cells #[.bool false, .slice (some ⟨W7.heap.size, 0, none⟩) 2 2, .slice none 0 0, .slice (some ⟨X1.heap.size, 0, none⟩) 2 2] 26))) := B6.out.trans (D6.mono B6.out.size)
  obtain ⟨vb, vo, rfl, cv⟩ := (M6.out.below D6).val (i := 0) (by decide)
  have cv0 : (X2.alloc (.cells #[.bool false, .slice (some ⟨W7.heap.size, 0, none⟩) 2 2, .slice none 0 0, .slice (some ⟨X1.heap.size, 0, none⟩) 2 2] 26)).cell? ⟨vb, vo, none⟩ = some (.string ⟨#[49]⟩) := cv
  have HP1 := hideN (place_any exI _ _ _ ⟨#[100]⟩ (X2.alloc (.cells #[.bool false, .slice (some ⟨W7.heap.size, 0, none⟩) 2 2, .slice none 0 0, .slice (some ⟨X1.heap.size, 0, none⟩) 2 2] 26)) NI.out exI_sm)
  have HP2 : Hid (∀ W, Below (X2.alloc (.cells #[.bool false, .slice (some ⟨W7.heap.size, 0, none⟩) 2 2, .slice none 0 0, .slice (some ⟨X1.heap.size, 0, none⟩) 2 2] 26)).heap.size (X2.alloc (.cells #[.bool false, .slice (some ⟨W7.heap.size, 0, none⟩) 2 2, .slice none 0 0, .slice (some ⟨X1.heap.size, 0, none⟩) 2 2] 26)) W → Calls Try.prog 21 #[.agg #[.bool false, .slice (some ⟨W7.heap.size, 0, none⟩) 2 2, .slice none 0 0, .slice (some ⟨X1.heap.size, 0, none⟩) 2 2], .string ⟨#[97]⟩] W fun e w' => e = .returned (.int .i64 0) ∧ Below W.heap.size W w') := fun W hb => by
    have := place_any exI _ _ _ ⟨#[97]⟩ W (NI.out.below hb) exI_sm
    rw [exI_a] at this
    exact this
  have HSZ : Hid (∀ W, Below (X2.alloc (.cells #[.bool false, .slice (some ⟨W7.heap.size, 0, none⟩) 2 2, .slice none 0 0, .slice (some ⟨X1.heap.size, 0, none⟩) 2 2] 26)).heap.size (X2.alloc (.cells #[.bool false, .slice (some ⟨W7.heap.size, 0, none⟩) 2 2, .slice none 0 0, .slice (some ⟨X1.heap.size, 0, none⟩) 2 2] 26)) W → Calls Try.prog 13 #[.agg #[.bool true, .slice (some ⟨w.heap.size, 0, none⟩) 2 2, .slice (some ⟨W1.heap.size, 0, none⟩) 2 2, .slice none 0 0]] W fun e w' => e = .returned (.int .i64 8) ∧ Below W.heap.size W w') := fun W hb => by
    have := size_any exA _ _ _ W (NA.out.below hb) exA_sm
    rw [exA_sz, W_small (by decide)] at this
    exact this
  rw [exI_d] at HP1
  unfold nod at HP1
  have HLI : Hid (exI.lf = false) := rfl
  rw [HLI.out] at HP1
  have k0 := KX.out.c0
  have k1 := KX.out.c1
  have m1 := VM.out.c1
  have m2 := VM.out.c2
  have i0 := VI.out.c0
  have i1 := VI.out.c1
  have i2 := VI.out.c2
  have i3 := VI.out.c3
  have e49 : ((ByteArray.toList ⟨#[49]⟩) == (ByteArray.toList ⟨#[49]⟩)) = true := by simp
  clear b7 d1 d2 d3 D7 D6 s1 s2 Vm cv n6r b6 hk2 hv2 hd2 hW5 HG
  go_wp2_with (refine wpList_store_newD _ rfl 26 (.tmp 6) (.tmp 22) rfl _ #[.bool false, .slice (some ⟨W7.heap.size, 0, none⟩) 2 2, .slice none 0 0, .slice (some ⟨X1.heap.size, 0, none⟩) 2 2] ?h1 ?h2 inf_nod rfl rfl ?_; (case h1 => rfl); (case h2 => rfl); skip)
  refine HP1.out.mono ?_
  rintro e w8 ⟨rfl, b8⟩
  have B8 := hideN b8
  have VI8 := VI.out.below b8
  have j0 := VI8.c0
  have j1 := VI8.c1
  have j2 := VI8.c2
  have j3 := VI8.c3
  clear k0 k1 m1 m2 i0 i1 i2 i3 b8 VI8 cv0 hW7 hX1 hX2 HP1
  go_wp2_with fail
  refine (HP2.out w8 B8.out).mono ?_
  rintro e w9 ⟨rfl, b9⟩
  have B9 : Hid (Below (X2.alloc (.cells #[.bool false, .slice (some ⟨W7.heap.size, 0, none⟩) 2 2, .slice none 0 0, .slice (some ⟨X1.heap.size, 0, none⟩) 2 2] 26)).heap.size (X2.alloc (.cells #[.bool false, .slice (some ⟨W7.heap.size, 0, none⟩) 2 2, .slice none 0 0, .slice (some ⟨X1.heap.size, 0, none⟩) 2 2] 26)) w9) := B8.out.trans (b9.mono B8.out.size)
  have VA9 := VA.out.below B9.out
  clear j0 j1 j2 j3 b9
  have j0 := VA9.c0
  have j1 := VA9.c1
  have j2 := VA9.c2
  have j3 := VA9.c3
  clear VA9
  go_wp2_with fail
  refine (HSZ.out w9 B9.out).mono ?_
  rintro e wA ⟨rfl, bA⟩
  have BA : Hid (Below w.heap.size w wA) := BX.out.trans ((B9.out.trans (bA.mono B9.out.size)).mono BX.out.size)
  clear j0 j1 j2 j3 bA
  go_wp2_with fail
  go_ret
  exact ⟨rfl, BA.out⟩
end Go.Proofs.Ytbpaeecclikeiaa
