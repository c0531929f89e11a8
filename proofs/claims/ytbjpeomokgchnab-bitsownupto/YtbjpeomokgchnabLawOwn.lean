/-
  What the law on readers that have bytes of their own comes to: true, and nothing that was there is touched.
-/
import Derived.Test.YtbjpeomokgchnabBack2
import Derived.Test.YtbjpeomokgchnabRefBk
namespace Go.Proofs.Ytbjpeomokgchnab
open Go.RowKit Pl
set_option linter.unusedVariables false

theorem By.set {xs : List Int} (h : By xs) (j : Nat) (u : Int) (hu : 0 ≤ u ∧ u ≤ 255) : By (xs.set j u) := by
  intro i
  rw [List.getD_eq_getElem?_getD, List.getElem?_set]
  split
  · split
    · simpa using hu
    · simp
  · rw [← List.getD_eq_getElem?_getD]; exact h i

set_option maxRecDepth 100000 in
set_option maxHeartbeats 4000000 in
theorem bitsOwn_walk (v u : Value) (ys ts : List Int) (w : World) (hx : Rd .u8 w v ys) (hy : By ys) (ht : Rd .i64 w u ts) (h1 : ys.length ≤ 1048576) (h2 : ts.length ≤ 1048576) :
    Calls Try.prog 3 #[v, u] w fun e w' => e = .returned (.bool true) ∧ Below w.heap.size w w' := by
  have HX : Hid (Rd .u8 w v ys) := hx
  have HY : Hid (By ys) := hy
  have HT : Hid (Rd .i64 w u ts) := ht
  obtain ⟨ta, tc, rfl, _, _, _, htc⟩ := ht
  have HTC : Hid (ts = [] ∨ ∃ b o, ta = some ⟨b, o, none⟩ ∧ ∀ i, i < ts.length → w.cell? ⟨b, o + i, none⟩ = some (.int .i64 (ts.getD i 0))) := htc
  clear hx hy htc
  go_enter Try.func3, Try.ntmps3
  go_wp2_with (at_builtin; refine wpList_many _ rfl (.tmp 24) (.tmp 25) 22 rfl 5 .u8 1 elem8 _ [] rfl (owns_nil _ _ _) _ ys rfl HX.out ?a1 ?a2 ?_)
  case a1 => simp; omega
  case a2 => simp; omega
  intro v1 w1 ho1 hg1
  obtain ⟨b1, f1⟩ := hg1.below
  have O1 : Hid (Owns .u8 5 w1 v1 ys) := by simpa [Hid] using ho1
  have B1 : Hid (Below w.heap.size w w1) := b1
  have F1 : Hid (∀ k, v1.ownBlock = some k → w.heap.size ≤ k ∧ k < w1.heap.size) := fun k hk => ⟨f1 k hk, O1.out.lt k hk⟩
  clear ho1 hg1 b1 f1
  go_wp2_with fail
  refine (newReader_any v1 ys w1 O1.out.rd HY.out (by omega)).mono ?_
  rintro e w2 ⟨b, rv, rfl, hr2, b2, hb2, hf2⟩
  have R2 : Hid (Rr w2 b rv ys 0) := hr2
  have O2 : Hid (Owns .u8 5 w2 v1 ys) := O1.out.below b2
  have B2 : Hid (Below w.heap.size w w2) := B1.out.trans (b2.mono B1.out.size)
  have F2 : Hid (w1.heap.size ≤ b ∧ b < w2.heap.size ∧ (∀ k, rv.ownBlock = some k → w1.heap.size ≤ k ∧ k < w2.heap.size) ∧ w1.heap.size ≤ w2.heap.size) := ⟨hb2, hr2.lt, fun k hk => ⟨hf2 k hk, hr2.own.lt k hk⟩, b2.size⟩
  clear hr2 b2 hb2 hf2 O1
  go_wp2_with fail
  refine (newBack_rd v1 ys w2 O2.out.rd HY.out (by omega)).mono ?_
  rintro e w3 (⟨hM, b', rv', rfl, hr3, b3, hb3, hf3⟩ | ⟨hM, rfl, rfl⟩)
  · have HM : Hid (HasMark ys) := hM
    have K3 : Hid (Bk w3 b' rv' ys (markAt ys)) := hr3
    have R3 : Hid (Rr w3 b rv ys 0) := R2.out.below b3
    have O3 : Hid (Owns .u8 5 w3 v1 ys) := O2.out.below b3
    have B3 : Hid (Below w.heap.size w w3) := B2.out.trans (b3.mono B2.out.size)
    have F3 : Hid (w2.heap.size ≤ b' ∧ b' < w3.heap.size ∧ (∀ k, rv'.ownBlock = some k → w2.heap.size ≤ k ∧ k < w3.heap.size) ∧ w2.heap.size ≤ w3.heap.size) := ⟨hb3, hr3.lt, fun k hk => ⟨hf3 k hk, hr3.own.lt k hk⟩, b3.size⟩
    clear hr3 b3 hb3 hf3 R2 O2 hM
    obtain ⟨a1, c1, hv1⟩ : ∃ a cap, v1 = .slice a ys.length cap := by obtain ⟨a, cap, e, _⟩ := O3.out.rd; exact ⟨a, cap, e⟩
    subst hv1
    go_wp2_with fail
    go_loopw [9] (fun i wr => ∃ (k : Nat) (zs : List Int), k ≤ ys.length ∧ i = .int .i64 k ∧ Hid (zs.length = ys.length ∧ By zs ∧ Owns .u8 5 wr (.slice a1 ys.length c1) zs ∧ Tch (fun j => (Value.slice a1 ys.length c1).ownBlock = some j) w3 wr)) (fun i _ => ys.length - (intOf i).toNat)
    case atStart => exact ⟨0, ys, Nat.zero_le _, rfl, rfl, HY.out, O3.out, Tch.refl _ _⟩
    case round =>
      obtain ⟨k, zs, hk, rfl, hZ⟩ := hrel
      by_cases hlt : k < ys.length
      · obtain ⟨g, cap, hv, hgl, hlc, hcm, hcell, hfz⟩ := hZ.out.2.2.1.shape (by rw [hZ.out.1]; omega)
        simp only [Value.slice.injEq] at hv
        obtain ⟨rfl, _, _⟩ := hv
        obtain ⟨z, hze⟩ : ∃ z, Hid (zs.getD k 0 = z) := ⟨_, rfl⟩
        have hzb : 0 ≤ z ∧ z ≤ 255 := by rw [← hze.out]; exact hZ.out.2.1 k
        have cz : wr.cell? ⟨g, k, none⟩ = some (.int .u8 z) := by rw [hcell k (by rw [hZ.out.1]; exact hlt), hze.out]
        have fz := hfz k
        clear hcell hfz
        go_wp2_with fail
        go_roundw
        case rel =>
          refine ⟨k + 1, zs.set k ((z + 1) % 256), by omega, by go_num, ?_, ?_, ?_, ?_⟩
          · rw [List.length_set]; exact hZ.out.1
          · exact hZ.out.2.1.set k _ (by omega)
          · exact hZ.out.2.2.1.set k _
          · exact hZ.out.2.2.2.setCell (p := ⟨g, k, none⟩) (fun _ => rfl) _
        case measure => simp [intOf]; omega
      · obtain ⟨S3, HS⟩ : ∃ S3, Hid (w3.heap.size = S3) := ⟨_, rfl⟩
        have T4 := hZ.out.2.2.2
        have HS3 : Hid (S3 ≤ wr.heap.size) := by rw [← HS.out]; exact T4.size
        have HB : Hid (w.heap.size ≤ b ∧ b < S3 ∧ (∀ j, rv.ownBlock = some j → j < w2.heap.size) ∧ (b < b' ∧ b' < S3) ∧ (∀ j, rv'.ownBlock = some j → w2.heap.size ≤ j) ∧ b < w2.heap.size ∧ w2.heap.size ≤ b') := by
          rw [← HS.out]
          have e1 := F2.out
          have e2 := F3.out
          have e3 := B1.out.size
          exact ⟨by omega, by omega, fun j hj => (e1.2.2.1 j hj).2, ⟨by omega, by omega⟩, fun j hj => (e2.2.2.1 j hj).1, by omega, by omega⟩
        have R4 : Hid (Rr wr b rv ys 0) := R3.out.tch T4 (fun e => by have := (F1.out _ e).2; have := F2.out.1; omega) (fun j hj e => by have := (F1.out _ e).2; have := (F2.out.2.2.1 j hj).1; omega)
        have K4 : Hid (Bk wr b' rv' ys (markAt ys)) := K3.out.tch T4 (fun e => by have := (F1.out _ e).2; have := F2.out.2.2.2; have := F3.out.1; omega) (fun j hj e => by have := (F1.out _ e).2; have := F2.out.2.2.2; have := (F3.out.2.2.1 j hj).1; omega)
        have B4 : Hid (Below w.heap.size w wr) := B3.out.trans (T4.below B3.out.size (fun j e => (F1.out j e).1))
        clear T4 hZ R3 K3 O3 B3
        go_wp2_with fail
        refine (row_rd v ys wr (HX.out.below B4.out) HY.out h1).mono ?_
        rintro e w5 ⟨r5, rfl, ho5, hg5⟩
        obtain ⟨b5, f5⟩ := hg5.below
        have R5 : Hid (Rr w5 b rv ys 0) := R4.out.below b5
        have K5 : Hid (Bk w5 b' rv' ys (markAt ys)) := K4.out.below b5
        have P5 : Hid (Rd .i64 w5 r5 ((unpack ys).drop 0)) := by simpa [Hid] using ho5.rd
        have N5 : Hid (∀ j, r5.ownBlock = some j → S3 ≤ j) := fun j hj => Nat.le_trans HS3.out (f5 j hj)
        have B5 : Hid (Below w.heap.size w w5) := B4.out.trans (b5.mono B4.out.size)
        have S5 : Hid (S3 ≤ w5.heap.size) := Nat.le_trans HS3.out b5.size
        clear ho5 hg5 b5 f5 R4 B4 HS3 K4
        go_wp2_with fail
        refine (marked_rd v ys w5 (HX.out.below B5.out) HY.out h1).mono ?_
        rintro e w6 (⟨_, r6, rfl, ho6, b6, f6⟩ | ⟨hM, _, _⟩)
        rotate_left
        · exact absurd HM.out hM
        have R6 : Hid (Rr w6 b rv ys 0) := R5.out.below b6
        have K6 : Hid (Bk w6 b' rv' ys (markAt ys)) := K5.out.below b6
        have P6 : Hid (Rd .i64 w6 r5 ((unpack ys).drop 0)) := P5.out.below b6
        have Q6 : Hid (Rd .i64 w6 r6 ((unpack ys).take (markAt ys))) := ho6
        have M6 : Hid (∀ j, r6.ownBlock = some j → S3 ≤ j) := fun j hj => Nat.le_trans S5.out (f6 j hj)
        have B6 : Hid (Below w.heap.size w w6) := B5.out.trans (b6.mono B5.out.size)
        clear ho6 b6 f6 R5 K5 P5 B5 S5
        obtain ⟨M, hMe⟩ : ∃ M, Hid (markAt ys = M) := ⟨_, rfl⟩
        rw [hMe.out] at K6 Q6
        go_wp2_with fail
        go_loopw [10, 11, 13] (fun r s i wr => ∃ k p q : Nat, k ≤ ts.length ∧ i = .int .i64 k ∧ Hid (Rr wr b rv ys p) ∧ Hid (Rd .i64 wr r ((unpack ys).drop p)) ∧ Hid (∀ j, r.ownBlock = some j → S3 ≤ j) ∧ Hid (Bk wr b' rv' ys q) ∧ Hid (Rd .i64 wr s ((unpack ys).take q)) ∧ Hid (∀ j, s.ownBlock = some j → S3 ≤ j) ∧ Hid (Below w.heap.size w wr)) (fun _ _ i _ => ts.length - (intOf i).toNat)
        case atStart => exact ⟨0, 0, M, Nat.zero_le _, rfl, R6, P6, N5, K6, Q6, M6, B6⟩
        case round =>
          obtain ⟨k, p, q, hk, rfl, R7, P7, N7, K7, Q7, M7, B7⟩ := hrel
          clear R6 P6 N5 B6 K6 Q6 M6
          by_cases hlt : k < ts.length
          · obtain ⟨tb, to', rfl, hc⟩ : ∃ b o, ta = some ⟨b, o, none⟩ ∧ ∀ i, i < ts.length → w.cell? ⟨b, o + i, none⟩ = some (.int .i64 (ts.getD i 0)) := by
              rcases HTC.out with rfl | h
              · simp at hlt
              · exact h
            obtain ⟨n, hne⟩ : ∃ n, Hid (ts.getD k 0 = n) := ⟨_, rfl⟩
            have cn0 : w.cell? ⟨tb, to' + k, none⟩ = some (.int .i64 n) := by rw [hc k hlt, hne.out]
            have htb : tb < w.heap.size := World.block_lt_of_cell? w ⟨tb, to' + k, none⟩ cn0
            have CN0 : Hid (∀ W : World, Below w.heap.size w W → W.cell? ⟨tb, to' + k, none⟩ = some (.int .i64 n)) := fun W hW => by rw [hW.cell (p := ⟨tb, to' + k, none⟩) htb]; exact cn0
            have cn := CN0.out _ B7.out
            clear hc cn0 htb
            go_wp2_with fail
            refine (refTake_rd u10 n _ wr P7.out (Bits.unp ys p) (by rw [List.length_drop, unpack_length]; omega)).mono ?_
            rintro e w8 ⟨r8, rfl, hr8, hn8, q8, hw8⟩
            obtain ⟨eV, eE, eN⟩ := tk_same ys p n
            rw [eV, eE]
            rw [eN] at hr8
            obtain ⟨X, hX⟩ : ∃ X, Hid (tkV (unpack ys) (8 * ys.length - p) p n = X) := ⟨_, rfl⟩
            obtain ⟨E, hE⟩ : ∃ E, Hid (tkE (8 * ys.length - p) n = E) := ⟨_, rfl⟩
            rw [hX.out, hE.out]
            have T8 : Hid (Below wr.heap.size wr w8) := by rw [hw8]; exact Below.of_drewN _ _ _
            have R8 : Hid (Rr w8 b rv ys p) := R7.out.below T8.out
            have B8 : Hid (Below w.heap.size w w8) := B7.out.trans (T8.out.mono B7.out.size)
            have P8 : Hid (Rd .i64 w8 r8 (((unpack ys).drop p).drop (tkN (8 * ys.length - p) n))) := hr8
            have N8 : Hid (∀ j, r8.ownBlock = some j → S3 ≤ j) := fun j hj => N7.out j (hn8 j hj)
            have K8 : Hid (Bk w8 b' rv' ys q) := K7.out.below T8.out
            have Q8 : Hid (Rd .i64 w8 u11 ((unpack ys).take q)) := Q7.out.below T8.out
            have cn8 := CN0.out _ B8.out
            clear hr8 hn8 hw8 eV eE eN T8 cn P7 N7 B7 R7 K7 Q7
            go_wp2_with fail
            refine (take_any b rv ys p n w8 R8.out).mono ?_
            rintro e w9 ⟨rfl, hr9, ht9⟩
            rw [hX.out, hE.out]
            obtain ⟨p', hp'⟩ : ∃ p', Hid (p + tkN (8 * ys.length - p) n = p') := ⟨_, rfl⟩
            rw [hp'.out] at hr9
            have R9 : Hid (Rr w9 b rv ys p') := hr9
            have B9 : Hid (Below w.heap.size w w9) := B8.out.trans (ht9.below B8.out.size (fun j e => by rw [e]; exact HB.out.1))
            have P9 : Hid (Rd .i64 w9 r8 ((unpack ys).drop p')) := by
              have := P8.out.tch ht9 (fun j hj e => by have := N8.out j hj; have := HB.out.2.1; omega)
              rw [List.drop_drop, hp'.out] at this
              exact this
            have K9 : Hid (Bk w9 b' rv' ys q) := K8.out.tch ht9 (fun e => by have := HB.out.2.2.2.1; omega) (fun j hj e => by have := HB.out.2.2.2.2.1 j hj; have := HB.out.2.2.2.2.2.1; omega)
            have Q9 : Hid (Rd .i64 w9 u11 ((unpack ys).take q)) := Q8.out.tch ht9 (fun j hj e => by have := M7.out j hj; have := HB.out.2.1; omega)
            have cn9 := CN0.out _ B9.out
            clear hr9 ht9 R8 B8 P8 cn8 K8 Q8
            go_wp2_with fail
            have hq := K9.out.le
            obtain ⟨eL, eV⟩ := tb_same (unpack ys) q n (by rw [unpack_length]; exact hq)
            refine (refBack_rd u11 n _ w9 Q9.out ((bits_unpack ys).take q) (by rw [eL]; omega)).mono ?_
            rintro e w10 ⟨r10, rfl, hr10, hn10, q10, hw10⟩
            rw [eL] at hr10 ⊢
            rw [eV]
            obtain ⟨Y, hY⟩ : ∃ Y, Hid (tkV (unpack ys) q (q - tkN q n) n = Y) := ⟨_, rfl⟩
            obtain ⟨G, hG⟩ : ∃ G, Hid (tkE q n = G) := ⟨_, rfl⟩
            rw [hY.out, hG.out]
            obtain ⟨q', hq'⟩ : ∃ q', Hid (q - tkN q n = q') := ⟨_, rfl⟩
            rw [hq'.out, List.take_take, Nat.min_eq_left (by rw [← hq'.out]; omega)] at hr10
            have T10 : Hid (Below w9.heap.size w9 w10) := by rw [hw10]; exact Below.of_drewN _ _ _
            have R10 : Hid (Rr w10 b rv ys p') := R9.out.below T10.out
            have P10 : Hid (Rd .i64 w10 r8 ((unpack ys).drop p')) := P9.out.below T10.out
            have K10 : Hid (Bk w10 b' rv' ys q) := K9.out.below T10.out
            have Q10 : Hid (Rd .i64 w10 r10 ((unpack ys).take q')) := hr10
            have M10 : Hid (∀ j, r10.ownBlock = some j → S3 ≤ j) := fun j hj => M7.out j (hn10 j hj)
            have B10 : Hid (Below w.heap.size w w10) := B9.out.trans (T10.out.mono B9.out.size)
            have cn10 := CN0.out _ B10.out
            clear hr10 hn10 hw10 eL eV T10 cn9 R9 P9 K9 Q9 B9 M7 hq
            go_wp2_with fail
            refine (backTake_any b' rv' ys q n w10 K10.out).mono ?_
            rintro e w11 ⟨rfl, hk11, ht11⟩
            rw [hY.out, hG.out]
            rw [hq'.out] at hk11
            have K11 : Hid (Bk w11 b' rv' ys q') := hk11
            have R11 : Hid (Rr w11 b rv ys p') := R10.out.tch ht11 (fun e => by have := HB.out.2.2.2.1; omega) (fun j hj e => by have := HB.out.2.2.1 j hj; have := HB.out.2.2.2.2.2.2; omega)
            have P11 : Hid (Rd .i64 w11 r8 ((unpack ys).drop p')) := P10.out.tch ht11 (fun j hj e => by have := N8.out j hj; have := HB.out.2.2.2.2.2.2; have := HB.out.2.2.2.1; omega)
            have Q11 : Hid (Rd .i64 w11 r10 ((unpack ys).take q')) := Q10.out.tch ht11 (fun j hj e => by have := M10.out j hj; have := HB.out.2.2.2.1; omega)
            have B11 : Hid (Below w.heap.size w w11) := B10.out.trans (ht11.below B10.out.size (fun j e => by rw [e]; have := HB.out.1; have := HB.out.2.2.2.1; omega))
            clear hk11 ht11 R10 P10 K10 Q10 B10 cn10
            go_wp2_with fail
            go_roundw
            case rel => exact ⟨k + 1, p', q', by omega, by go_num, R11, P11, N8, K11, Q11, M10, B11⟩
            case measure => simp [intOf]; omega
          · go_wp2_with fail
            refine (lives_any _).mono ?_
            rintro e w12 ⟨rfl, b12⟩
            have B12 : Hid (Below w.heap.size w w12) := B7.out.trans (b12.mono B7.out.size)
            clear b12
            go_wp2_with fail
            go_ret
            exact ⟨rfl, B12.out⟩
  · have HM : Hid (¬ HasMark ys) := hM
    have F3 : Hid (w1.heap.size ≤ b ∧ b < w3.heap.size ∧ (∀ k, rv.ownBlock = some k → w1.heap.size ≤ k ∧ k < w3.heap.size) ∧ w1.heap.size ≤ w3.heap.size) := F2.out
    clear hM F2
    obtain ⟨a1, c1, hv1⟩ : ∃ a cap, v1 = .slice a ys.length cap := by obtain ⟨a, cap, e, _⟩ := O2.out.rd; exact ⟨a, cap, e⟩
    subst hv1
    go_wp2_with fail
    go_loopw [9] (fun i wr => ∃ (k : Nat) (zs : List Int), k ≤ ys.length ∧ i = .int .i64 k ∧ Hid (zs.length = ys.length ∧ By zs ∧ Owns .u8 5 wr (.slice a1 ys.length c1) zs ∧ Tch (fun j => (Value.slice a1 ys.length c1).ownBlock = some j) w3 wr)) (fun i _ => ys.length - (intOf i).toNat)
    case atStart => exact ⟨0, ys, Nat.zero_le _, rfl, rfl, HY.out, O2.out, Tch.refl _ _⟩
    case round =>
      obtain ⟨k, zs, hk, rfl, hZ⟩ := hrel
      by_cases hlt : k < ys.length
      · obtain ⟨g, cap, hv, hgl, hlc, hcm, hcell, hfz⟩ := hZ.out.2.2.1.shape (by rw [hZ.out.1]; omega)
        simp only [Value.slice.injEq] at hv
        obtain ⟨rfl, _, _⟩ := hv
        obtain ⟨z, hze⟩ : ∃ z, Hid (zs.getD k 0 = z) := ⟨_, rfl⟩
        have hzb : 0 ≤ z ∧ z ≤ 255 := by rw [← hze.out]; exact hZ.out.2.1 k
        have cz : wr.cell? ⟨g, k, none⟩ = some (.int .u8 z) := by rw [hcell k (by rw [hZ.out.1]; exact hlt), hze.out]
        have fz := hfz k
        clear hcell hfz
        go_wp2_with fail
        go_roundw
        case rel =>
          refine ⟨k + 1, zs.set k ((z + 1) % 256), by omega, by go_num, ?_, ?_, ?_, ?_⟩
          · rw [List.length_set]; exact hZ.out.1
          · exact hZ.out.2.1.set k _ (by omega)
          · exact hZ.out.2.2.1.set k _
          · exact hZ.out.2.2.2.setCell (p := ⟨g, k, none⟩) (fun _ => rfl) _
        case measure => simp [intOf]; omega
      · obtain ⟨S3, HS⟩ : ∃ S3, Hid (w3.heap.size = S3) := ⟨_, rfl⟩
        have T4 := hZ.out.2.2.2
        have HS3 : Hid (S3 ≤ wr.heap.size) := by rw [← HS.out]; exact T4.size
        have HB : Hid (w.heap.size ≤ b ∧ b < S3 ∧ True) := by
          rw [← HS.out]
          have e1 := F3.out
          have e3 := B1.out.size
          exact ⟨by omega, by omega, trivial⟩
        have R4 : Hid (Rr wr b rv ys 0) := R2.out.tch T4 (fun e => by have := (F1.out _ e).2; have := F3.out.1; omega) (fun j hj e => by have := (F1.out _ e).2; have := (F3.out.2.2.1 j hj).1; omega)
        have B4 : Hid (Below w.heap.size w wr) := B2.out.trans (T4.below B2.out.size (fun j e => (F1.out j e).1))
        clear T4 hZ R2 O2 B2
        go_wp2_with fail
        refine (row_rd v ys wr (HX.out.below B4.out) HY.out h1).mono ?_
        rintro e w5 ⟨r5, rfl, ho5, hg5⟩
        obtain ⟨b5, f5⟩ := hg5.below
        have R5 : Hid (Rr w5 b rv ys 0) := R4.out.below b5
        have P5 : Hid (Rd .i64 w5 r5 ((unpack ys).drop 0)) := by simpa [Hid] using ho5.rd
        have N5 : Hid (∀ j, r5.ownBlock = some j → S3 ≤ j) := fun j hj => Nat.le_trans HS3.out (f5 j hj)
        have B5 : Hid (Below w.heap.size w w5) := B4.out.trans (b5.mono B4.out.size)
        have S5 : Hid (S3 ≤ w5.heap.size) := Nat.le_trans HS3.out b5.size
        clear ho5 hg5 b5 f5 R4 B4 HS3
        go_wp2_with fail
        refine (marked_rd v ys w5 (HX.out.below B5.out) HY.out h1).mono ?_
        rintro e w6 (⟨hM, _⟩ | ⟨_, rfl, rfl⟩)
        · exact absurd hM HM.out
        have R6 := R5
        have P6 := P5
        have B6 := B5
        clear R5 P5 B5 S5
        go_wp2_with fail
        go_loopw [10, 13] (fun r i wr => ∃ k p : Nat, k ≤ ts.length ∧ i = .int .i64 k ∧ Hid (Rr wr b rv ys p) ∧ Hid (Rd .i64 wr r ((unpack ys).drop p)) ∧ Hid (∀ j, r.ownBlock = some j → S3 ≤ j) ∧ Hid (Below w.heap.size w wr)) (fun _ i _ => ts.length - (intOf i).toNat)
        case atStart => exact ⟨0, 0, Nat.zero_le _, rfl, R6, P6, N5, B6⟩
        case round =>
          obtain ⟨k, p, hk, rfl, R7, P7, N7, B7⟩ := hrel
          clear R6 P6 N5 B6
          by_cases hlt : k < ts.length
          · obtain ⟨tb, to', rfl, hc⟩ : ∃ b o, ta = some ⟨b, o, none⟩ ∧ ∀ i, i < ts.length → w.cell? ⟨b, o + i, none⟩ = some (.int .i64 (ts.getD i 0)) := by
              rcases HTC.out with rfl | h
              · simp at hlt
              · exact h
            obtain ⟨n, hne⟩ : ∃ n, Hid (ts.getD k 0 = n) := ⟨_, rfl⟩
            have cn0 : w.cell? ⟨tb, to' + k, none⟩ = some (.int .i64 n) := by rw [hc k hlt, hne.out]
            have htb : tb < w.heap.size := World.block_lt_of_cell? w ⟨tb, to' + k, none⟩ cn0
            have CN0 : Hid (∀ W : World, Below w.heap.size w W → W.cell? ⟨tb, to' + k, none⟩ = some (.int .i64 n)) := fun W hW => by rw [hW.cell (p := ⟨tb, to' + k, none⟩) htb]; exact cn0
            have cn := CN0.out _ B7.out
            clear hc cn0 htb
            go_wp2_with fail
            refine (refTake_rd u10 n _ wr P7.out (Bits.unp ys p) (by rw [List.length_drop, unpack_length]; omega)).mono ?_
            rintro e w8 ⟨r8, rfl, hr8, hn8, q8, hw8⟩
            obtain ⟨eV, eE, eN⟩ := tk_same ys p n
            rw [eV, eE]
            rw [eN] at hr8
            obtain ⟨X, hX⟩ : ∃ X, Hid (tkV (unpack ys) (8 * ys.length - p) p n = X) := ⟨_, rfl⟩
            obtain ⟨E, hE⟩ : ∃ E, Hid (tkE (8 * ys.length - p) n = E) := ⟨_, rfl⟩
            rw [hX.out, hE.out]
            have T8 : Hid (Below wr.heap.size wr w8) := by rw [hw8]; exact Below.of_drewN _ _ _
            have R8 : Hid (Rr w8 b rv ys p) := R7.out.below T8.out
            have B8 : Hid (Below w.heap.size w w8) := B7.out.trans (T8.out.mono B7.out.size)
            have P8 : Hid (Rd .i64 w8 r8 (((unpack ys).drop p).drop (tkN (8 * ys.length - p) n))) := hr8
            have N8 : Hid (∀ j, r8.ownBlock = some j → S3 ≤ j) := fun j hj => N7.out j (hn8 j hj)
            have cn8 := CN0.out _ B8.out
            clear hr8 hn8 hw8 eV eE eN T8 cn P7 N7 B7 R7
            go_wp2_with fail
            refine (take_any b rv ys p n w8 R8.out).mono ?_
            rintro e w9 ⟨rfl, hr9, ht9⟩
            rw [hX.out, hE.out]
            obtain ⟨p', hp'⟩ : ∃ p', Hid (p + tkN (8 * ys.length - p) n = p') := ⟨_, rfl⟩
            rw [hp'.out] at hr9
            have R9 : Hid (Rr w9 b rv ys p') := hr9
            have B9 : Hid (Below w.heap.size w w9) := B8.out.trans (ht9.below B8.out.size (fun j e => by rw [e]; exact HB.out.1))
            have P9 : Hid (Rd .i64 w9 r8 ((unpack ys).drop p')) := by
              have := P8.out.tch ht9 (fun j hj e => by have := N8.out j hj; have := HB.out.2.1; omega)
              rw [List.drop_drop, hp'.out] at this
              exact this
            have cn9 := CN0.out _ B9.out
            clear hr9 ht9 R8 B8 P8 cn8
            go_wp2_with fail
            go_roundw
            case rel => exact ⟨k + 1, p', by omega, by go_num, R9, P9, N8, B9⟩
            case measure => simp [intOf]; omega
          · go_wp2_with fail
            refine (lives_any _).mono ?_
            rintro e w12 ⟨rfl, b12⟩
            have B12 : Hid (Below w.heap.size w w12) := B7.out.trans (b12.mono B7.out.size)
            clear b12
            go_wp2_with fail
            go_ret
            exact ⟨rfl, B12.out⟩
end Go.Proofs.Ytbjpeomokgchnab
