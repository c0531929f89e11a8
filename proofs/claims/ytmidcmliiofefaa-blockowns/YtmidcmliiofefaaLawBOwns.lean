/-
  BlockOwns: what is handed in stays, and what is told is new: for every number and block the law answers true.
-/
import Derived.Test.YtmidcmliiofefaaLawBGets
namespace Go.Proofs.Ytmidcmliiofefaa
open Go.RowKit Pl
set_option linter.unusedVariables false
set_option linter.unusedSimpArgs false
set_option maxRecDepth 100000

set_option maxHeartbeats 1000000 in
theorem blockOwns_walk (n k : Int) (v : Value) (ys : List Int) (w : World) (hr : Rd .u8 w v ys) (hb : By ys) (hs : ys.length ≤ 140737488351232) :
    Calls Try.prog 7 #[.int .i64 n, .agg #[.int .i64 k, v]] w fun e w' => e = .returned (.bool true) ∧ Below w.heap.size w w' := by
  obtain ⟨a, cap, rfl, h1, h2, _⟩ := id hr
  have HY : Hid (Rd .u8 w (.slice a ys.length cap) ys) := hr
  have BY : Hid (By ys) := hb
  obtain ⟨l, hl⟩ : ∃ l, Hid (ys.length = l) := ⟨_, rfl⟩
  have HA1 : Hid (([] : List Int).length + ys.length ≤ 9223372036854775807) := by show _ ≤ _; simp; omega
  have HA2 : Hid ((([] : List Int).length + ys.length) * 1 ≤ 140737488355328) := by show _ ≤ _; simp; omega
  rw [hl.out] at HY ⊢
  obtain ⟨W1, hW1⟩ : ∃ W1, w.alloc (.cells #[.int .i64 k, .slice a l cap] 24) = W1 := ⟨_, rfl⟩
  have B1 : Hid (Below w.heap.size w W1) := by rw [← hW1]; exact (Below.refl _ _).alloc (Nat.le_refl _) _
  have V1 : Hid (Bkv W1 w.heap.size k (.slice a l cap)) := by rw [← hW1]; exact bkv_new w _ _
  have R1 : Hid (Rd .u8 W1 (.slice a l cap) ys) := HY.out.below B1.out
  have p0 := V1.out.c0
  have p1 := V1.out.c1
  obtain ⟨q0, hq0⟩ : ∃ q0, w.heap.size = q0 := ⟨_, rfl⟩
  have HQ0 : Hid (w.heap.size = q0) := hq0
  rw [hq0] at V1 p0 p1
  clear hr hb h1 h2 hs
  go_enter Try.func7, Try.ntmps7
  go_wp2_with (at_builtin; refine wpList_many _ rfl (.tmp 13) (.tmp 15) 22 rfl 5 .u8 1 elem8 (.slice none 0 0) [] ?h1 (owns_nil _ _ _) _ ys ?h2 R1.out HA1.out HA2.out ?_; (case h1 => kernel_rfl); (case h2 => kernel_rfl))
  intro ov w2 o2 g2
  try rw [List.nil_append] at o2
  have gb := g2.below
  obtain ⟨oa, oc, hov, _⟩ := o2.rd
  rw [hl.out] at hov
  subst hov
  have O2 : Hid (Owns .u8 5 w2 (.slice oa l oc) ys) := o2
  have V2 : Hid (Bkv w2 q0 k (.slice a l cap)) := V1.out.below gb.1
  have B2 : Hid (Below w.heap.size w w2) := B1.out.trans (gb.1.mono B1.out.size)
  have HP1 := hideP (put_any n k _ ys w2 O2.out.rd BY.out)
  unfold blk at HP1
  clear o2 g2 gb p0 p1 hW1 V1 B1 R1 HA1 HA2 hq0
  have p0 := V2.out.c0
  have p1 := V2.out.c1
  go_wp2_with fail
  refine HP1.out.mono ?_
  rintro e w3 ⟨v3, c3, rfl, b3, n3, h3⟩
  have B3 : Hid (Below w.heap.size w w3) := B2.out.trans (b3.mono B2.out.size)
  rcases h3 with ⟨hm, rfl, wb3, g, rfl⟩ | ⟨_, rfl, rfl⟩
  rotate_left
  · clear b3 n3 p0 p1
    go_wp2_with fail
    refine (lives_anyB w3).mono ?_
    rintro e w5 ⟨rfl, b5⟩
    go_wp2_with fail
    go_ret
    exact ⟨rfl, B3.out.trans (b5.mono B3.out.size)⟩
  have HM : Hid (mayK n k ys.length = true) := hm
  have NG : Hid (w2.heap.size ≤ g) := n3 g rfl
  have HGP := hideP (getE_put hm)
  have HTL : Hid ((sec n k ys).length = 256) := sec_len n k (by have := (mayK_iff.1 hm).2.2.2.2; omega)
  have HTB : Hid (By (sec n k ys)) := by
    obtain ⟨m1, m2, m3, m4, m5⟩ := mayK_iff.1 hm
    exact sec_by ⟨m1, m2⟩ ⟨m3, m4⟩ BY.out (by omega)
  obtain ⟨T, hT⟩ : ∃ T, Hid (sec n k ys = T) := ⟨_, rfl⟩
  rw [hT.out] at wb3 HGP HTB HTL
  have V3 : Hid (Bkv w3 q0 k (.slice a l cap)) := V2.out.below b3
  have O3 : Hid (Owns .u8 5 w3 (.slice oa l oc) ys) := O2.out.below b3
  have X3 : Hid (Wb w3 (.slice (some ⟨g, 0, none⟩) 256 256) T) := wb3
  have GL : Hid (g < w3.heap.size) := X3.out.lt g rfl
  have NO : Hid (∀ j, (Value.slice oa l oc).ownBlock = some j → j ≠ g) := fun j hj e => by have := O2.out.lt j hj; have := NG.out; omega
  have NQ : Hid (q0 ≠ g) := by have h1 := V2.out.lt; have h2 := NG.out; show q0 ≠ g; omega
  clear b3 n3 hm wb3 p0 p1
  go_wp2_with fail
  refine (get_any n _ T w3 X3.out.rd HTB.out).mono ?_
  intro e w4 h
  obtain ⟨a5, l5, c5, K, E, Y, rfl, hE, hK, hl5, r5, b5, n5⟩ := getR_open h
  clear h
  rw [HGP.out.1] at hE
  rw [HGP.out.2] at hK
  cases hE
  cases hK
  obtain ⟨q, hq⟩ : ∃ q, w4.heap.size = q := ⟨_, rfl⟩
  obtain ⟨W5, hW5⟩ : ∃ W5, w4.alloc (.cells #[.int .i64 k, .slice a5 l5 c5] 24) = W5 := ⟨_, rfl⟩
  have b6 : Below w4.heap.size w4 W5 := by rw [← hW5]; exact (Below.refl _ _).alloc (Nat.le_refl _) _
  have b35 : Below w3.heap.size w3 W5 := b5.trans (b6.mono b5.size)
  have C5 : Hid (Bkv W5 q k (.slice a5 l5 c5)) := by rw [← hW5, ← hq]; exact bkv_new w4 _ _
  have Y5 : Hid (Rd .u8 W5 (.slice a5 l5 c5) ys) := r5.below b6
  have V5 : Hid (Bkv W5 q0 k (.slice a l cap)) := V3.out.below b35
  have O5 : Hid (Owns .u8 5 W5 (.slice oa l oc) ys) := O3.out.below b35
  have X5 : Hid (Wb W5 (.slice (some ⟨g, 0, none⟩) 256 256) T) := X3.out.below b35
  have B5 : Hid (Below w.heap.size w W5) := B3.out.trans (b35.mono B3.out.size)
  have NY : Hid (∀ j, (Value.slice a5 l5 c5).ownBlock = some j → j ≠ g) := fun j hj e => by have := n5 j hj; have := GL.out; omega
  have NQ2 : Hid (q ≠ g) := by have h1 := b5.size; have h2 := GL.out; show q ≠ g; omega
  have NW : Hid (w.heap.size ≤ g) := Nat.le_trans B2.out.size NG.out
  clear hl5 r5 b5 b6 b35 n5
  go_wp2_with fail
  clear hW5 hq
  go_loopw [10] (fun i wr => ∃ (j : Nat) (zs : List Int), j ≤ 256 ∧ i = .int .i64 j ∧ zs.length = 256 ∧ Hid (Wb wr (.slice (some ⟨g, 0, none⟩) 256 256) zs) ∧ Hid (Tch (fun k => k = g) W5 wr)) (fun i _ => 256 - (intOf i).toNat)
  case atStart => exact ⟨0, T, Nat.zero_le _, rfl, HTL.out, X5, Tch.refl _ _⟩
  case round =>
    obtain ⟨j, zs, hj, rfl, hz, Z, T1⟩ := hrel
    have HZ : Hid (zs.length = 256) := hz
    clear hz
    by_cases hlt : j < 256
    · have hj1 : (j : Int) < 256 := by omega
      have cz : wr.cell? ⟨g, j, none⟩ = some (.int .u8 (zs.getD j 0)) := by
        obtain ⟨b, cp, t, C, e, h1, h2, h3, h4⟩ := Z.out
        rw [HZ.out] at e
        cases e
        rw [cell_of_row wr g j C t (0, 0) h3]
        have e : (C.toList.take zs.length)[j]? = C.toList[j]? := by rw [List.getElem?_take, if_pos (by rw [HZ.out]; exact hlt)]
        rw [← Array.getElem?_toList, ← e, h4, bcs, List.getElem?_map, List.getD_eq_getElem?_getD, List.getElem?_eq_getElem (by rw [HZ.out]; exact hlt)]
        rfl
      have fz := Z.out.fz j
      have Z2 : Hid (Wb (wr.setCell ⟨g, j, none⟩ (.int .u8 99)) (.slice (some ⟨g, 0, none⟩) 256 256) (zs.set j 99)) := Z.out.set j 99
      have T2 : Hid (Tch (fun k => k = g) W5 (wr.setCell ⟨g, j, none⟩ (.int .u8 99))) := Tch.setCell T1.out (p := ⟨g, j, none⟩) (fun _ => rfl) _
      have HZ2 : Hid ((zs.set j 99).length = 256) := by show _ = _; rw [List.length_set]; exact HZ.out
      generalize zs.getD j 0 = z at cz
      generalize zs.set j 99 = zs2 at Z2 HZ2
      clear Z T1 HZ
      go_wp2_with fail
      go_roundw
      case rel => exact ⟨j + 1, zs2, by omega, by go_num, HZ2.out, Z2, T2⟩
      case measure => simp [intOf]; omega
    · have hnn : ¬ (j : Int) < 256 := by omega
      have V6 : Hid (Bkv wr q0 k (.slice a l cap)) := V5.out.tch T1.out (fun e => NQ.out e)
      have C6 : Hid (Bkv wr q k (.slice a5 l5 c5)) := C5.out.tch T1.out (fun e => NQ2.out e)
      have O6 : Hid (Owns .u8 5 wr (.slice oa l oc) ys) := O5.out.tch T1.out (fun i hi e => NO.out i hi e)
      have Y6 : Hid (Rd .u8 wr (.slice a5 l5 c5) ys) := Y5.out.tch T1.out (fun i hi e => NY.out i hi e)
      have B6 : Hid (Below w.heap.size w wr) := B5.out.trans (T1.out.below B5.out.size (fun k e => by rw [e]; exact NW.out))
      have hs0 := same_rd _ _ ys ys wr O6.out.rd (HY.out.below B6.out)
      rw [show decide (ys = ys) = true by simp] at hs0
      have HS1 := hideP hs0
      have p1 := V6.out.c1
      clear hs0 Z T1 hlt
      go_wp2_with fail
      refine HS1.out.mono ?_
      rintro e w7 ⟨rfl, b7⟩
      have V7 : Hid (Bkv w7 q0 k (.slice a l cap)) := V6.out.below b7
      have C7 : Hid (Bkv w7 q k (.slice a5 l5 c5)) := C6.out.below b7
      have B7 : Hid (Below w.heap.size w w7) := B6.out.trans (b7.mono B6.out.size)
      have hs0 := same_rd _ _ ys ys w7 (Y6.out.below b7) (HY.out.below B7.out)
      rw [show decide (ys = ys) = true by simp] at hs0
      have HS2 := hideP hs0
      clear hs0 b7 p1
      have p1 := V7.out.c1
      have p2 := C7.out.c1
      go_wp2_with fail
      refine HS2.out.mono ?_
      rintro e w8 ⟨rfl, b8⟩
      have B8 : Hid (Below w.heap.size w w8) := B7.out.trans (b8.mono B7.out.size)
      clear b8 p1 p2
      go_wp2_with fail
      refine (lives_anyB w8).mono ?_
      rintro e w9 ⟨rfl, b9⟩
      go_wp2_with fail
      go_ret
      exact ⟨rfl, B8.out.trans (b9.mono B8.out.size)⟩
end Go.Proofs.Ytmidcmliiofefaa
