import Derived.Test.YtaacidgihhcpkaaYX03
import Derived.Test.YtaacidgihhcpkaaYX19
import Derived.Test.YtaacidgihhcpkaaYX06
import Derived.Great.BuildSlice
/-
  The document's number and Piece of layer 11.
-/
namespace Go.Proofs.Ytaacidgihhcpkaa
open Go.RowKit Pl
set_option linter.unusedVariables false
set_option linter.unusedSimpArgs false
set_option maxRecDepth 100000

theorem owns_cells (w : World) (xs : List Int) (h : 0 < xs.length) (hm : xs.length ≤ 1000) : Owns .u8 5 (w.alloc (.cells (bcs xs).toArray 5)) (.slice (some ⟨w.heap.size, 0, none⟩) xs.length xs.length) xs := by
  refine ⟨by rw [List.length_map]; omega, .inr ⟨w.heap.size, xs.length, (bcs xs).toArray, rfl, Nat.zero_le _, heap_alloc_new w _, Nat.le_refl _, by unfold maxLen; omega, by rw [List.size_toArray, bcs_len]; omega, ?_⟩⟩
  rw [List.toList_toArray, List.take_of_length_le (by rw [bcs_len]; omega)]
  rfl

set_option maxHeartbeats 400000 in
theorem refNumJ_any (v : Value) (xs : List Int) (N : Nat) (w : World) (ho : Owns .u8 5 w v xs) (hN : N < 9223372036854775807) (hx : xs.length ≤ 1000) :
    Calls Try.prog 41 #[v, .int .i64 (N : Int)] w fun e w' => ∃ v', e = .returned v' ∧ Owns .u8 5 w' v' (xs ++ leN 4 (N : Int)) ∧ Grew w w' v v' := by
  have HO : Hid (Owns .u8 5 w v xs) := ho
  clear ho
  go_enter Try.func41, Try.ntmps41
  go_wp2_with fail
  go_loopw [0, 1, 5] (fun ov nv i wr => ∃ (j Y : Nat) (v0 : Value), j ≤ 4 ∧ v0 = ov ∧ nv = .int .i64 (Y : Int) ∧ i = .int .i64 j ∧ Y < 9223372036854775807 ∧ Hid (N / 256 ^ j = Y) ∧ Hid (Owns .u8 5 wr v0 (xs ++ leN j (N : Int))) ∧ Hid (Grew w wr v v0)) (fun _ _ i _ => 4 - (intOf i).toNat)
  case atStart => exact ⟨0, N, v, Nat.zero_le _, rfl, rfl, rfl, hN, by rw [Nat.pow_zero, Nat.div_one]; rfl, by rw [show leN 0 (N : Int) = [] from rfl, List.append_nil]; exact HO, Grew.refl _ _⟩
  case round =>
    clear HO
    obtain ⟨j, Y, v0, hj, rfl, rfl, rfl, hY, HY, O, G⟩ := hrel
    by_cases hlt : j < 4
    · have hjk : (j : Int) < 4 := by omega
      obtain ⟨b, hb⟩ : ∃ b, Y % 256 = b := ⟨_, rfl⟩
      obtain ⟨Z, hZ⟩ : ∃ Z, Y / 256 = Z := ⟨_, rfl⟩
      have t1 : (Y : Int).tmod 256 = (b : Int) := by rw [Int.tmod_eq_emod_of_nonneg (by omega)]; omega
      have t2 : (Y : Int).tdiv 256 = (Z : Int) := by rw [Int.tdiv_eq_ediv_of_nonneg (by omega)]; omega
      have hb2 : (b : Int) < 256 := by omega
      have hZ2 : Z < 9223372036854775807 := by omega
      have HLN : Hid ((xs ++ leN j (N : Int)).length ≤ 1004) := by show _ ≤ _; rw [List.length_append, leN_len]; omega
      have HE : Hid (xs ++ (leN j (N : Int) ++ [(b : Int)]) = xs ++ leN (j + 1) (N : Int)) := by
        show _ = _
        have e : (N : Int) / 256 ^ j % 256 = (b : Int) := by
          rw [← hb, ← HY.out, Int.natCast_emod, Int.natCast_ediv, Int.natCast_pow]
          rfl
        rw [leN_succ, e]
      have HZ : Hid (N / 256 ^ (j + 1) = Z) := by show _ = _; rw [Nat.pow_succ, ← Nat.div_div_eq_div_mul, HY.out, hZ]
      clear hb hZ HY
      go_wp2_with (at_builtin; refine wpList_push _ rfl (.tmp 10) (.tmp 14) 36 rfl 5 .u8 1 elem8 _ (xs ++ leN j (N : Int)) rfl O.out (b : Int) rfl (by have := HLN.out; omega) (by have := HLN.out; omega) ?_)
      intro v2 w2 o2 g2
      rw [HE.out] at o2
      have O2 := hideP o2
      have G2 : Hid (Grew w w2 v v2) := G.out.trans g2
      clear o2 g2 O G HE HLN
      go_wp2_with fail
      go_roundw
      case rel => exact ⟨j + 1, Z, _, by omega, rfl, rfl, by go_num, hZ2, HZ, O2, G2⟩
      case measure => simp [intOf]; omega
    · have hjk : ¬ (j : Int) < 4 := by omega
      have hj4 : j = 4 := by omega
      rw [hj4] at O
      clear hj4
      go_wp2_with fail
      go_ret
      exact ⟨_, rfl, O.out, G.out⟩

theorem jpre_rows (p : Pc) : ((leN 1 74 ++ leN 1 (p.pl : Int) ++ leN 1 (p.mn : Int) ++ leN 1 (p.ys.length : Int)) ++ leN 4 (p.gen : Int)) ++ leN 4 (p.num : Int) = jhd p := by simp [jhd]

set_option maxHeartbeats 1000000 in
theorem refPieceJ_any (p : Pc) (v : Value) (w : World) (hr : Rd .u8 w v p.ys) (hb : By p.ys) (hp : OkR p) :
    Calls Try.prog 20 #[.int .i64 (p.gen : Int), .int .i64 (p.num : Int), .int .i64 (p.pl : Int), .int .i64 (p.mn : Int), v] w fun e w' => ∃ v', e = .returned v' ∧ Owns .u8 5 w' v' (jsec p) ∧ Below w.heap.size w w' ∧ ∀ k, v'.ownBlock = some k → w.heap.size ≤ k := by
  obtain ⟨a, cap, rfl, hc1, hc2, _⟩ := id hr
  have HR : Hid (Rd .u8 w (.slice a p.ys.length cap) p.ys) := hr
  have HY : Hid (By p.ys) := hb
  have HH := hideP (jpre_rows p)
  have HPL := hideP (jpre_len hp.len)
  have HPB := hideP (jpre_by hb)
  have HHL : Hid ((jhd p).length = 12) := jhd_len p
  have HJS : Hid (jpre p ++ leN 4 (crc (jpre p) : Int) = jsec p) := by
    show _ = _
    unfold jsec
    congr 1
    unfold leN le4
    simp [List.range_succ]
  have HJP : Hid (jhd p ++ (p.ys ++ List.replicate (240 - p.ys.length) 0) = jpre p) := rfl
  have q1 := hp.pl
  have q2 := hp.mn
  have q3 := hp.gen
  have q4 := hp.num
  have q5 := hp.len
  have hcl : cap ≤ 9223372036854775807 := by unfold maxLen at hc2; omega
  obtain ⟨js, hjs⟩ : ∃ x, Hid (jsec p = x) := ⟨_, rfl⟩
  obtain ⟨jp, hjp⟩ : ∃ x, Hid (jpre p = x) := ⟨_, rfl⟩
  obtain ⟨jh, hjh⟩ : ∃ x, Hid (jhd p = x) := ⟨_, rfl⟩
  rw [hjs.out] at HJS ⊢
  rw [hjp.out] at HJS HJP HPL HPB
  rw [hjh.out] at HJP HHL HH
  have HL1 := hideP (leN_1 p.pl q1)
  have HL2 := hideP (leN_1 p.mn q2)
  have HL3 := hideP (leN_1 p.ys.length (by omega))
  rw [HL1.out, HL2.out, HL3.out, show leN 1 74 = [74] from rfl] at HH
  obtain ⟨P, M, G, N, ys⟩ := p
  dsimp only at *
  obtain ⟨l, hl⟩ : ∃ l, Hid (ys.length = l) := ⟨_, rfl⟩
  rw [hl.out] at HR HH hc1 q5 HJP ⊢
  clear hp hr hb hc2 HL1 HL2 HL3
  obtain ⟨W1, hW1⟩ : ∃ W1, w.alloc (.cells #[.int .u8 74, .int .u8 (P : Int), .int .u8 (M : Int), .int .u8 (l : Int)] 5) = W1 := ⟨_, rfl⟩
  have b1 : Hid (Below w.heap.size w W1) := by rw [← hW1]; exact (Below.refl _ _).alloc (Nat.le_refl _) _
  have O1 : Hid (Owns .u8 5 W1 (.slice (some ⟨w.heap.size, 0, none⟩) 4 4) [74, (P : Int), (M : Int), (l : Int)]) := by
    rw [← hW1]
    exact owns_cells w [74, (P : Int), (M : Int), (l : Int)] (by simp) (by simp)
  have HN1 := hideP (refNumJ_any _ _ G W1 O1.out (by omega) (by simp))
  go_enter Try.func20, Try.ntmps20
  go_wp2_with fail
  refine HN1.out.mono ?_
  clear HN1
  rintro e w2 ⟨v2, rfl, o2, g2⟩
  have B2 : Hid (Below w.heap.size w w2 ∧ ∀ k, v2.ownBlock = some k → w.heap.size ≤ k) := g2.onto b1.out (fun k hk => by cases hk; exact Nat.le_refl _)
  have HN2 := hideP (refNumJ_any _ _ N w2 o2 (by omega) (by rw [List.length_append, leN_len]; simp))
  clear o2 g2 O1 b1 hW1
  go_wp2_with fail
  refine HN2.out.mono ?_
  clear HN2
  rintro e w3 ⟨v3, rfl, o3, g3⟩
  have B3 := hideP (g3.onto B2.out.1 B2.out.2)
  have e3 : [74, (P : Int), (M : Int), (l : Int)] ++ leN 4 (G : Int) ++ leN 4 (N : Int) = jh := by rw [← HH.out]; rfl
  rw [e3] at o3
  have O3 := hideP o3
  have R3 : Hid (Rd .u8 w3 (.slice a l cap) ys) := HR.out.below B3.out.1
  clear o3 g3 e3 B2
  go_wp2_with (at_builtin; refine wpList_many _ rfl (.tmp 26) (.tmp 27) 36 rfl 5 .u8 1 elem8 v3 jh rfl O3.out (.slice a l cap) ys rfl R3.out (by rw [HHL.out, hl.out]; omega) (by rw [HHL.out, hl.out]; omega) ?_)
  intro v4 w4 o4 g4
  have O4 := hideP o4
  have B4 := hideP (g4.onto B3.out.1 B3.out.2)
  clear o4 g4 O3 R3 B3
  go_wp2_with fail
  go_loopw [11] (fun ov wr => ∃ (t : Nat) (v0 : Value), v0 = ov ∧ 12 + l + t ≤ 252 ∧ Hid (Owns .u8 5 wr v0 (jh ++ (ys ++ List.replicate t 0))) ∧ Hid (Below w.heap.size w wr ∧ ∀ k, v0.ownBlock = some k → w.heap.size ≤ k)) (fun ov _ => 252 - (match ov with | .slice _ n _ => n | _ => 0))
  case atStart => exact ⟨0, v4, rfl, by omega, by rw [List.replicate_zero, List.append_nil]; exact O4, B4⟩
  case round =>
    clear O4 B4
    obtain ⟨t, v0, rfl, ht, O, B⟩ := hrel
    obtain ⟨oa, oc, hoe, _, ho2, _⟩ := id O.out.rd
    subst hoe
    have hoc : oc ≤ 9223372036854775807 := by unfold maxLen at ho2; omega
    have HLE : Hid ((jh ++ (ys ++ List.replicate t 0)).length = 12 + l + t) := by show _ = _; rw [List.length_append, List.length_append, List.length_replicate, HHL.out, hl.out]; omega
    obtain ⟨z, hz⟩ : ∃ z, Hid (12 + l + t = z) := ⟨_, rfl⟩
    rw [hz.out] at HLE ht
    rw [HLE.out] at O B ⊢
    obtain ⟨YY, hY0⟩ : ∃ YY, jh ++ (ys ++ List.replicate t 0) = YY := ⟨_, rfl⟩
    have hYY : Hid (jh ++ (ys ++ List.replicate t 0) = YY) := hY0
    clear hY0
    rw [hYY.out] at O HLE
    by_cases hlt : z < 252
    · have hlt1 : (z : Int) < 252 := by omega
      go_wp2_with (at_builtin; refine wpList_push _ rfl (.tmp 32) (.tmp 33) 36 rfl 5 .u8 1 elem8 (.slice oa z oc) YY rfl O.out 0 rfl (by rw [HLE.out]; omega) (by rw [HLE.out]; omega) ?_)
      intro v2 w2 o2 g2
      have B2 := hideP (g2.onto B.out.1 B.out.2)
      have O2 : Hid (Owns .u8 5 w2 v2 (jh ++ (ys ++ List.replicate (t + 1) 0))) := by
        have e : YY ++ [0] = jh ++ (ys ++ List.replicate (t + 1) 0) := by rw [← hYY.out, List.replicate_succ', List.append_assoc, List.append_assoc]
        rw [e] at o2
        exact o2
      obtain ⟨oa2, oc2, hoe2, _⟩ := id O2.out.rd
      subst hoe2
      have HL2 : Hid ((jh ++ (ys ++ List.replicate (t + 1) 0)).length = z + 1) := by show _ = _; rw [List.length_append, List.length_append, List.length_replicate, HHL.out, hl.out, ← hz.out]; omega
      rw [HL2.out] at O2 B2 ⊢
      clear o2 g2 O B HLE
      go_wp2_with fail
      go_roundw
      case rel => exact ⟨t + 1, _, rfl, by have := hz.out; omega, O2, B2⟩
      case measure => show 252 - (z + 1) < 252 - z; omega
    · have hlt1 : ¬ (z : Int) < 252 := by omega
      have HYJ : Hid (YY = jp) := by
        show _ = _
        rw [← hYY.out, ← HJP.out, show 240 - l = t by have := hz.out; omega]
      rw [HYJ.out] at O
      have HC := hideP (refCrc_any _ jp wr O.out.rd HPB.out)
      go_wp2_with fail
      refine HC.out.mono ?_
      rintro e w5 ⟨rfl, b5⟩
      have O5 := hideP (O.out.below b5)
      have B5 : Hid (Below w.heap.size w w5) := B.out.1.trans (b5.mono B.out.1.size)
      have HN := hideP (refNumJ_any _ _ (crc jp) w5 O5.out (by unfold crc; omega) (by rw [HPL.out]; decide))
      rw [HJS.out] at HN
      clear b5 HC
      go_wp2_with fail
      refine HN.out.mono ?_
      clear HN
      rintro e w6 ⟨v6, rfl, o6, g6⟩
      have B6 := hideP (g6.onto B5.out B.out.2)
      have O6 := hideP o6
      clear o6 g6
      go_wp2_with fail
      go_ret
      exact ⟨_, rfl, O6.out, B6.out.1, B6.out.2⟩
end Go.Proofs.Ytaacidgihhcpkaa
