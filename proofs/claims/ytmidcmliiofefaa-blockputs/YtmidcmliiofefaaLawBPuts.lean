/-
  BlockPuts: a block is written as the document says, or refused, and read again, by its number alone: for every number, block and other number the law answers true.
-/
import Derived.Test.YtmidcmliiofefaaLawBGets
namespace Go.Proofs.Ytmidcmliiofefaa
open Go.RowKit Pl
set_option linter.unusedVariables false
set_option linter.unusedSimpArgs false
set_option maxRecDepth 100000

set_option maxHeartbeats 1000000 in
theorem blockPuts_bad (n k o : Int) (v : Value) (ys : List Int) (w : World) (hr : Rd .u8 w v ys) (hb : By ys) (hm : mayK n k ys.length = false) :
    Calls Try.prog 3 #[.int .i64 n, .agg #[.int .i64 k, v], .int .i64 o] w fun e w' => e = .returned (.bool true) ∧ Below w.heap.size w w' := by
  obtain ⟨a, cap, rfl, h1, h2, _⟩ := id hr
  have HY : Hid (Rd .u8 w (.slice a ys.length cap) ys) := hr
  have BY : Hid (By ys) := hb
  have hl9 : Hid (ys.length ≤ 9223372036854775807) := by show _ ≤ _; unfold maxLen at h2; omega
  obtain ⟨l, hl⟩ : ∃ l, Hid (ys.length = l) := ⟨_, rfl⟩
  have HM : Hid (mayK n k ys.length = false) := hm
  rw [hl.out] at HY hm hl9 ⊢
  obtain ⟨W1, hW1⟩ : ∃ W1, w.alloc (.cells #[.int .i64 k, .slice a l cap] 24) = W1 := ⟨_, rfl⟩
  have B1 : Hid (Below w.heap.size w W1) := by rw [← hW1]; exact (Below.refl _ _).alloc (Nat.le_refl _) _
  have V1 : Hid (Bkv W1 w.heap.size k (.slice a l cap)) := by rw [← hW1]; exact bkv_new w _ _
  have HP1 := hideP (put_any n k _ ys W1 (HY.out.below B1.out) BY.out)
  have HP2 : Hid (∀ W, Calls Try.prog 10 #[.int .i64 n, .agg #[.int .i64 k, .slice a l cap]] W fun e w' => e = .returned (.tuple #[.slice none 0 0, .int .i64 1]) ∧ Below W.heap.size W w') := fun W => refPutB_bad n k a l cap W hl9.out hm
  unfold blk at HP1
  have p0 := V1.out.c0
  have p1 := V1.out.c1
  clear hr hb hm h1 h2
  go_enter Try.func3, Try.ntmps3
  go_wp2_with fail
  refine HP1.out.mono ?_
  rintro e w2 ⟨v2, c2, rfl, b2, n2, h2⟩
  rcases h2 with ⟨h, _⟩ | ⟨_, rfl, rfl⟩
  · rw [HM.out] at h; cases h
  have V2 : Hid (Bkv w2 w.heap.size k (.slice a l cap)) := V1.out.below b2
  have B2 : Hid (Below w.heap.size w w2) := B1.out.trans (b2.mono B1.out.size)
  clear b2 n2 p0 p1 hW1
  have p0 := V2.out.c0
  have p1 := V2.out.c1
  go_wp2_with fail
  refine (HP2.out w2).mono ?_
  rintro e w3 ⟨rfl, b3⟩
  have B3 : Hid (Below w.heap.size w w3) := B2.out.trans (b3.mono B2.out.size)
  have hs0 := same_rd (.slice none 0 0) (.slice none 0 0) [] [] w3 (owns_nil .u8 5 w3).rd (owns_nil .u8 5 w3).rd
  rw [show decide (([] : List Int) = []) = true by simp] at hs0
  have HS := hideP hs0
  clear b3 p0 p1 hs0
  go_wp2_with fail
  refine HS.out.mono ?_
  rintro e w4 ⟨rfl, b4⟩
  have B4 : Hid (Below w.heap.size w w4) := B3.out.trans (b4.mono B3.out.size)
  clear b4
  go_wp2_with fail
  refine (lives_anyB w4).mono ?_
  rintro e w5 ⟨rfl, b5⟩
  go_wp2_with fail
  go_ret
  exact ⟨rfl, B4.out.trans (b5.mono B4.out.size)⟩

set_option maxHeartbeats 1000000 in
theorem blockPuts_ok (n k o : Int) (v : Value) (ys : List Int) (w : World) (hr : Rd .u8 w v ys) (hb : By ys) (hm : mayK n k ys.length = true) :
    Calls Try.prog 3 #[.int .i64 n, .agg #[.int .i64 k, v], .int .i64 o] w fun e w' => e = .returned (.bool true) ∧ Below w.heap.size w w' := by
  obtain ⟨a, cap, rfl, h1, h2, _⟩ := id hr
  have HY : Hid (Rd .u8 w (.slice a ys.length cap) ys) := hr
  have BY : Hid (By ys) := hb
  obtain ⟨l, hl⟩ : ∃ l, Hid (ys.length = l) := ⟨_, rfl⟩
  have HM : Hid (mayK n k ys.length = true) := hm
  rw [hl.out] at HY ⊢
  obtain ⟨W1, hW1⟩ : ∃ W1, w.alloc (.cells #[.int .i64 k, .slice a l cap] 24) = W1 := ⟨_, rfl⟩
  have B1 : Hid (Below w.heap.size w W1) := by rw [← hW1]; exact (Below.refl _ _).alloc (Nat.le_refl _) _
  have V1 : Hid (Bkv W1 w.heap.size k (.slice a l cap)) := by rw [← hW1]; exact bkv_new w _ _
  have HP1 := hideP (put_any n k _ ys W1 (HY.out.below B1.out) BY.out)
  have HP2 : Hid (∀ W, Rd .u8 W (.slice a l cap) ys → Calls Try.prog 10 #[.int .i64 n, .agg #[.int .i64 k, .slice a l cap]] W fun e w' => ∃ v, e = .returned (.tuple #[v, .int .i64 0]) ∧ Rd .u8 w' v (sec n k ys) ∧ Below W.heap.size W w') := fun W h => refPutB_ok n k _ ys W h BY.out HM.out
  unfold blk at HP1
  have p0 := V1.out.c0
  have p1 := V1.out.c1
  have HGP := hideP (getE_put hm)
  have HGE : Hid (o ≠ n → getE o (sec n k ys) = 7) := fun h => getE_else hm h
  obtain ⟨m1, m2, m3, m4, m5⟩ := mayK_iff.1 hm
  have HTB : Hid (By (sec n k ys)) := sec_by ⟨m1, m2⟩ ⟨m3, m4⟩ hb (by omega)
  obtain ⟨T, hT⟩ : ∃ T, Hid (sec n k ys = T) := ⟨_, rfl⟩
  rw [hT.out] at HP2 HGP HGE HTB
  clear hr hb hm h1 h2 m1 m2 m3 m4 m5
  go_enter Try.func3, Try.ntmps3
  go_wp2_with fail
  refine HP1.out.mono ?_
  rintro e w2 ⟨v2, c2, rfl, b2, n2, h2⟩
  rcases h2 with ⟨_, rfl, wb2, g, rfl⟩ | ⟨h, _⟩
  rotate_left
  · rw [HM.out] at h; cases h
  rw [hT.out] at wb2
  have V2 : Hid (Bkv w2 w.heap.size k (.slice a l cap)) := V1.out.below b2
  have B2 : Hid (Below w.heap.size w w2) := B1.out.trans (b2.mono B1.out.size)
  have R2 : Hid (Rd .u8 w2 (.slice (some ⟨g, 0, none⟩) 256 256) T) := wb2.rd
  clear b2 n2 p0 p1 hW1 wb2
  have p0 := V2.out.c0
  have p1 := V2.out.c1
  go_wp2_with fail
  refine (HP2.out w2 (HY.out.below B2.out)).mono ?_
  rintro e w3 ⟨v3, rfl, r3, b3⟩
  have B3 : Hid (Below w.heap.size w w3) := B2.out.trans (b3.mono B2.out.size)
  have V3 : Hid (Bkv w3 w.heap.size k (.slice a l cap)) := V2.out.below b3
  have R3 : Hid (Rd .u8 w3 (.slice (some ⟨g, 0, none⟩) 256 256) T) := R2.out.below b3
  have hs0 := same_rd _ v3 T T w3 R3.out r3
  rw [show decide (T = T) = true by simp] at hs0
  have HS := hideP hs0
  clear b3 p0 p1 hs0 r3
  go_wp2_with fail
  refine HS.out.mono ?_
  rintro e w4 ⟨rfl, b4⟩
  have B4 : Hid (Below w.heap.size w w4) := B3.out.trans (b4.mono B3.out.size)
  have V4 : Hid (Bkv w4 w.heap.size k (.slice a l cap)) := V3.out.below b4
  have R4 : Hid (Rd .u8 w4 (.slice (some ⟨g, 0, none⟩) 256 256) T) := R3.out.below b4
  clear b4
  go_wp2_with fail
  refine (get_any n _ T w4 R4.out HTB.out).mono ?_
  intro e w5 h
  obtain ⟨a5, l5, c5, K, E, Y, rfl, hE, hK, hl5, r5, b5, _⟩ := getR_open h
  clear h
  rw [HGP.out.1] at hE
  rw [HGP.out.2] at hK
  cases hE
  cases hK
  obtain ⟨q, hq⟩ : ∃ q, w5.heap.size = q := ⟨_, rfl⟩
  obtain ⟨W6, hW6⟩ : ∃ W6, w5.alloc (.cells #[.int .i64 k, .slice a5 l5 c5] 24) = W6 := ⟨_, rfl⟩
  have b6 : Below w5.heap.size w5 W6 := by rw [← hW6]; exact (Below.refl _ _).alloc (Nat.le_refl _) _
  have b46 : Below w4.heap.size w4 W6 := b5.trans (b6.mono b5.size)
  have X6 : Hid (Bkv W6 q k (.slice a5 l5 c5)) := by rw [← hW6, ← hq]; exact bkv_new w5 _ _
  have V6 : Hid (Bkv W6 w.heap.size k (.slice a l cap)) := V4.out.below b46
  have B6 : Hid (Below w.heap.size w W6) := B4.out.trans (b46.mono B4.out.size)
  have R6 : Hid (Rd .u8 W6 (.slice (some ⟨g, 0, none⟩) 256 256) T) := R4.out.below b46
  have hs0 := same2_any k k _ _ ys ys W6 (r5.below b6) (HY.out.below B6.out)
  rw [show (decide (k = k) && decide (ys = ys)) = true by simp] at hs0
  have HS2 := hideP hs0
  unfold blk at HS2
  have p0 := V6.out.c0
  have p1 := V6.out.c1
  have p2 := X6.out.c0
  have p3 := X6.out.c1
  clear hl5 r5 b5 b6 b46 hs0
  go_wp2_with fail
  refine HS2.out.mono ?_
  rintro e w7 ⟨rfl, b7⟩
  have B7 : Hid (Below w.heap.size w w7) := B6.out.trans (b7.mono B6.out.size)
  have R7 : Hid (Rd .u8 w7 (.slice (some ⟨g, 0, none⟩) 256 256) T) := R6.out.below b7
  clear b7 p0 p1 p2 p3 hW6 hq
  go_wp2_with fail
  refine (get_any o _ T w7 R7.out HTB.out).mono ?_
  intro e w8 h
  obtain ⟨a8, l8, c8, K8, E8, Y8, rfl, hE8, hK8, hl8, r8, b8, _⟩ := getR_open h
  clear h
  obtain ⟨W9, hW9⟩ : ∃ W9, w8.alloc (.cells #[.int .i64 K8, .slice a8 l8 c8] 24) = W9 := ⟨_, rfl⟩
  have b9 : Below w8.heap.size w8 W9 := by rw [← hW9]; exact (Below.refl _ _).alloc (Nat.le_refl _) _
  have B9 : Hid (Below w.heap.size w W9) := B7.out.trans ((b8.trans (b9.mono b8.size)).mono B7.out.size)
  by_cases hon : o = n
  · have e8 : E8 = 0 := by rw [← hE8, hon]; exact HGP.out.1
    have hd : (o == n) = true := by rw [beq_iff_eq]; exact hon
    subst e8
    clear hE8 hK8 hl8 r8 b8 b9 hon
    go_wp2_with fail
    refine (lives_anyB W9).mono ?_
    rintro e w10 ⟨rfl, b10⟩
    go_wp2_with fail
    go_ret
    exact ⟨rfl, B9.out.trans (b10.mono B9.out.size)⟩
  · have e8 : E8 = 7 := by rw [← hE8]; exact HGE.out hon
    have hd : (o == n) = false := by rw [beq_eq_false_iff_ne]; exact hon
    subst e8
    clear hE8 hK8 hl8 r8 b8 b9 hon
    go_wp2_with fail
    refine (lives_anyB W9).mono ?_
    rintro e w10 ⟨rfl, b10⟩
    go_wp2_with fail
    go_ret
    exact ⟨rfl, B9.out.trans (b10.mono B9.out.size)⟩

theorem blockPuts_walk (n k o : Int) (v : Value) (ys : List Int) (w : World) (hr : Rd .u8 w v ys) (hb : By ys) :
    Calls Try.prog 3 #[.int .i64 n, .agg #[.int .i64 k, v], .int .i64 o] w fun e w' => e = .returned (.bool true) ∧ Below w.heap.size w w' := by
  cases hm : mayK n k ys.length with
  | false => exact blockPuts_bad n k o v ys w hr hb hm
  | true => exact blockPuts_ok n k o v ys w hr hb hm
end Go.Proofs.Ytmidcmliiofefaa
