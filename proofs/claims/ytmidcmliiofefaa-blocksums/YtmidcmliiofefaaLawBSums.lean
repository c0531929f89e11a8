/-
  BlockSums: any bytes with a right sum are read as just the block that the document says, or as none: for every number and bytes the law answers true.
-/
import Derived.Test.YtmidcmliiofefaaLawBGets
namespace Go.Proofs.Ytmidcmliiofefaa
open Go.RowKit Pl
set_option linter.unusedVariables false
set_option linter.unusedSimpArgs false
set_option maxRecDepth 100000

/-- A first part of a row of its own is one, too. -/
theorem Owns.cutB {k : IntKind} {e : TypeId} {w : World} {g n cap : Nat} {xs : List Int} (h : Owns k e w (.slice (some ⟨g, 0, none⟩) n cap) xs) {m : Nat} (hm : m ≤ xs.length) : Owns k e w (.slice (some ⟨g, 0, none⟩) m cap) (xs.take m) := by
  have h' : w.ownsRow 0 e 1 (.slice (some ⟨g, 0, none⟩) n cap) xs.length (xs.map (Value.int k)) := h
  have hlm : (xs.take m).length = m := by rw [List.length_take]; omega
  rcases h'.2 with ⟨e, _⟩ | ⟨g', cap', cur, e, hb, hg, h1, h2, h3, h4⟩
  · cases e
  · cases e
    refine ⟨by simp, .inr ⟨g, cap, cur, by rw [hlm], hb, hg, by rw [hlm]; omega, h2, h3, ?_⟩⟩
    rw [hlm, List.map_take, ← h4, List.take_take]
    congr 1
    omega

/-- 252 bytes with their sum. -/
theorem sum_smd {X : List Int} (h : X.length = 252) : (X ++ le4 (crc X)) = smd (X ++ le4 (crc X)) := by
  unfold smd
  rw [List.take_append_of_le_length (by omega), List.take_of_length_le (by omega)]
theorem sum_step (X : List Int) (s t : Nat) (ht : t < 4) : (X ++ (le4 s).take t) ++ [((s / 2 ^ (8 * t) % 256 : Nat) : Int)] = X ++ (le4 s).take (t + 1) := by
  rw [← le4_get s t ht, List.append_assoc, List.take_succ_eq_append_getElem (show t < (le4 s).length by rw [le4_len]; exact ht), List.getD_eq_getElem?_getD, List.getElem?_eq_getElem (show t < (le4 s).length by rw [le4_len]; exact ht)]
  rfl
theorem getE_not6 {n : Int} {xs : List Int} (h : xs = smd xs) : getE n xs ≠ 6 := by
  unfold getE
  split
  · decide
  · rw [if_neg (fun e => e h)]
    split <;> decide

set_option maxHeartbeats 4000000 in
theorem blockSums_walk (n : Int) (v : Value) (ds : List Int) (w : World) (hr : Rd .u8 w v ds) (hb : By ds) (hs : ds.length ≤ 140737488351232) :
    Calls Try.prog 5 #[.int .i64 n, v] w fun e w' => e = .returned (.bool true) ∧ Below w.heap.size w w' := by
  obtain ⟨a, cap, rfl, h1, h2, _⟩ := id hr
  have HR : Hid (Rd .u8 w (.slice a ds.length cap) ds) := hr
  have HB : Hid (By ds) := hb
  have HA1 : Hid (([] : List Int).length + ds.length ≤ 9223372036854775807) := by show _ ≤ _; simp; omega
  have HA2 : Hid ((([] : List Int).length + ds.length) * 1 ≤ 140737488355328) := by show _ ≤ _; simp; omega
  obtain ⟨l, hl⟩ : ∃ l, Hid (ds.length = l) := ⟨_, rfl⟩
  rw [hl.out] at HR ⊢
  clear hr hb h1 h2 hs
  go_enter Try.func5, Try.ntmps5
  go_wp2_with (at_builtin; refine wpList_many _ rfl (.tmp 13) (.tmp 14) 22 rfl 5 .u8 1 elem8 (.slice none 0 0) [] ?h1 (owns_nil _ _ _) _ ds ?h2 HR.out HA1.out HA2.out ?_; (case h1 => kernel_rfl); (case h2 => kernel_rfl))
  intro ov w2 o2 g2
  try rw [List.nil_append] at o2
  have gb := g2.below
  have O2 : Hid (Owns .u8 5 w2 ov ds) := o2
  have B2 : Hid (Below w.heap.size w w2) := gb.1
  have N2 : Hid (∀ j, ov.ownBlock = some j → w.heap.size ≤ j) := gb.2
  clear o2 g2 gb HA1 HA2
  go_wp2_with fail
  go_loopw [5] (fun v wr => ∃ (xs : List Int) (v0 : Value), v0 = v ∧ Hid (By xs) ∧ Hid (Owns .u8 5 wr v0 xs) ∧ Hid (Below w.heap.size w wr) ∧ Hid (∀ j, v0.ownBlock = some j → w.heap.size ≤ j)) (fun v _ => 252 - (match v with | .slice _ l _ => l | _ => 0))
  case atStart => exact ⟨ds, ov, rfl, HB, O2, B2, N2⟩
  case round =>
    clear O2 B2 N2
    obtain ⟨xs, v0, rfl, HX, O1, B1, N1⟩ := hrel
    obtain ⟨xa, cp, hv, hcp1, hcp2, _⟩ := O1.out.rd
    subst hv
    have hcp3 : cp ≤ 9223372036854775807 := by unfold maxLen at hcp2; omega
    obtain ⟨m, hm⟩ : ∃ m, Hid (xs.length = m) := ⟨_, rfl⟩
    rw [hm.out] at O1 N1 hcp1 ⊢
    by_cases hlt : m < 252
    · have hlt2 : (m : Int) < 252 := by omega
      have HK1 : Hid (xs.length + 1 ≤ 9223372036854775807) := by show _ ≤ _; rw [hm.out]; omega
      have HK2 : Hid ((xs.length + 1) * 1 ≤ 140737488355328) := by show _ ≤ _; rw [hm.out]; omega
      go_wp2_with (at_builtin; refine wpList_push _ rfl (.tmp 19) (.tmp 20) 22 rfl 5 .u8 1 elem8 _ xs rfl O1.out 0 rfl HK1.out HK2.out ?_)
      intro v2 w2 o2 g2
      have gn := g2.onto B1.out N1.out
      have O3 : Hid (Owns .u8 5 w2 v2 (xs ++ [0])) := o2
      have B3 : Hid (Below w.heap.size w w2) := gn.1
      have N3 : Hid (∀ j, v2.ownBlock = some j → w.heap.size ≤ j) := gn.2
      have HX3 : Hid (By (xs ++ [0])) := HX.out.appendB (by_of_memB (by simp))
      obtain ⟨ga, cp', hv', _⟩ := O3.out.rd
      have hlen : (xs ++ [(0 : Int)]).length = m + 1 := by rw [List.length_append, hm.out]; rfl
      rw [hlen] at hv'
      subst hv'
      have HLE : Hid ((xs ++ [(0 : Int)]).length = m + 1) := hlen
      generalize xs ++ [(0 : Int)] = xs2 at O3 HX3 HLE
      clear o2 g2 gn O1 B1 N1 HK1 HK2 hlen
      go_wp2_with fail
      go_roundw
      case rel => exact ⟨xs2, _, rfl, HX3, O3, B3, N3⟩
      case measure => simp; omega
    · have hnn : ¬ (m : Int) < 252 := by omega
      obtain ⟨g, cp2, hv, hgl, _⟩ := O1.out.shape (by rw [hm.out]; omega)
      rw [hm.out] at hv
      cases hv
      have h252 : 252 ≤ cp := by omega
      obtain ⟨X, hXe⟩ : ∃ X, Hid (xs.take 252 = X) := ⟨_, rfl⟩
      have HXL : Hid (X.length = 252) := by show _ = _; rw [← hXe.out, List.length_take, hm.out]; omega
      have HXB : Hid (By X) := by rw [← hXe.out]; exact HX.out.take 252
      have OX : Hid (Owns .u8 5 wr (.slice (some ⟨g, 0, none⟩) 252 cp) X) := by rw [← hXe.out]; exact O1.out.cutB (by rw [hm.out]; omega)
      have NX : Hid (w.heap.size ≤ g) := N1.out g rfl
      clear O1 N1 hlt hgl HX hXe
      go_wp2_with fail
      refine (refCrc_any _ X wr OX.out.rd HXB.out).mono ?_
      rintro e w4 ⟨rfl, hb4⟩
      obtain ⟨s, hs⟩ : ∃ s, crc X = s := ⟨_, rfl⟩
      have HSE : Hid (crc X = s) := hs
      have hs4 : s < 4294967296 := by rw [← hs]; exact crc_ltR X
      rw [hs]
      have O4 : Hid (Owns .u8 5 w4 (.slice (some ⟨g, 0, none⟩) 252 cp) (X ++ (le4 s).take 0)) := by
        rw [List.take_zero, List.append_nil]
        exact OX.out.below hb4
      have B4 : Hid (Below w.heap.size w w4) := B1.out.trans (hb4.mono B1.out.size)
      have N4 : Hid (∀ j, (Value.slice (some ⟨g, 0, none⟩) 252 cp).ownBlock = some j → w.heap.size ≤ j) := fun j hj => by cases hj; exact NX.out
      clear hs OX B1 hb4 hnn
      go_wp2_with fail
      go_loopw [5, 7] (fun v k wr => ∃ (t : Nat) (v0 : Value), t ≤ 4 ∧ k = .int .i64 t ∧ v0 = v ∧ Hid (Owns .u8 5 wr v0 (X ++ (le4 s).take t)) ∧ Hid (Below w.heap.size w wr) ∧ Hid (∀ j, v0.ownBlock = some j → w.heap.size ≤ j)) (fun _ k _ => 4 - (intOf k).toNat)
      case atStart => exact ⟨0, _, by decide, rfl, rfl, O4, B4, N4⟩
      case round =>
        clear O4 B4 N4 hcp1 hcp2 hcp3 h252
        obtain ⟨t, v0, ht, rfl, rfl, O1, B1, N1⟩ := hrel
        by_cases hlt : t < 4
        · have HLN : Hid ((X ++ (le4 s).take t).length = 252 + t) := by show _ = _; rw [List.length_append, HXL.out, List.length_take, le4_len]; omega
          have HST := hideP (sum_step X s t hlt)
          obtain ⟨M, hM⟩ : ∃ M, 8 * t = M := ⟨_, rfl⟩
          have hM1 : 8 * (t : Int) = (M : Int) := by omega
          have hM2 : (M : Int) ≤ 24 := by omega
          obtain ⟨Y, hY⟩ : ∃ Y, s / 2 ^ M = Y := ⟨_, rfl⟩
          rw [hM, hY] at HST
          have hYN : Y ≤ s := by rw [← hY]; exact Nat.div_le_self _ _
          have y1 : (s : Int) / 2 ^ M = (Y : Int) := by rw [← hY, Int.natCast_ediv, Int.natCast_pow]; rfl
          obtain ⟨b, hb⟩ : ∃ b, Y % 256 = b := ⟨_, rfl⟩
          have y2 : IntKind.u8.wrap (Y : Int) = (b : Int) := by rw [IntKind.wrap_u8']; omega
          have y3 : (Y : Int) % 256 = (b : Int) := by omega
          have y4 : IntKind.i64.wrap (Y : Int) = (Y : Int) := by rw [IntKind.wrap_i64]; omega
          rw [hb] at HST
          obtain ⟨R, hR⟩ : ∃ R, X ++ (le4 s).take t = R := ⟨_, rfl⟩
          rw [hR] at O1 HLN HST
          clear hY hb hM hR
          go_wp2_with (at_builtin; refine wpList_push _ rfl (.tmp 30) (.tmp 36) 22 rfl 5 .u8 1 elem8 _ R rfl O1.out (b : Int) rfl (by rw [HLN.out]; omega) (by rw [HLN.out]; omega) ?_)
          intro v2 w2 o2 g2
          rw [HST.out] at o2
          have O2 : Hid (Owns .u8 5 w2 v2 (X ++ (le4 s).take (t + 1))) := o2
          have gn := g2.onto B1.out N1.out
          have B2 : Hid (Below w.heap.size w w2) := gn.1
          have N2 : Hid (∀ j, v2.ownBlock = some j → w.heap.size ≤ j) := gn.2
          clear o2 g2 gn O1 B1 N1 HLN HST
          go_wp2_with fail
          go_roundw
          case rel => exact ⟨t + 1, _, by omega, by go_num, rfl, O2, B2, N2⟩
          case measure => simp [intOf]; omega
        · have ht4 : t = 4 := by omega
          rw [ht4] at O1
          have hnn : ¬ (t : Int) < 4 := by omega
          obtain ⟨S, hS⟩ : ∃ S, Hid (X ++ le4 s = S) := ⟨_, rfl⟩
          have HRD : Hid (Rd .u8 wr v0 S) := by
            have := O1.out.rd
            rw [List.take_of_length_le (by rw [le4_len]; decide), hS.out] at this
            exact this
          have HSB : Hid (By S) := by rw [← hS.out]; exact HXB.out.appendB (le4_by _)
          have HN6 : Hid (∀ m, getE m S ≠ 6) := fun m => getE_not6 (by rw [← hS.out, ← HSE.out]; exact sum_smd HXL.out)
          clear hlt ht4 O1
          go_wp2_with fail
          refine (get_any n _ S wr HRD.out HSB.out).mono ?_
          intro e w5 h
          obtain ⟨a1, l1, c1, K, E, Y, rfl, hE, hK, hl1, r1, b1, _⟩ := getR_open h
          clear h
          have HE : Hid (getE n S = E) := hE
          have HK : Hid (getB n S = (K, Y)) := hK
          have he6 : E ≠ 6 := by rw [← hE]; exact HN6.out n
          have hd6 : (E != 6) = true := by rw [bne_iff_ne]; exact he6
          obtain ⟨q1, hq1⟩ : ∃ q, w5.heap.size = q := ⟨_, rfl⟩
          obtain ⟨W6, hW6⟩ : ∃ W6, w5.alloc (.cells #[.int .i64 K, .slice a1 l1 c1] 24) = W6 := ⟨_, rfl⟩
          have b6 : Below w5.heap.size w5 W6 := by rw [← hW6]; exact (Below.refl _ _).alloc (Nat.le_refl _) _
          have b26 : Below wr.heap.size wr W6 := b1.trans (b6.mono b1.size)
          have V6 : Hid (Bkv W6 q1 K (.slice a1 l1 c1)) := by rw [← hW6, ← hq1]; exact bkv_new w5 _ _
          have Y6 : Hid (Rd .u8 W6 (.slice a1 l1 c1) Y) := r1.below b6
          have B6 : Hid (Below w.heap.size w W6) := B1.out.trans (b26.mono B1.out.size)
          have R6 : Hid (Rd .u8 W6 v0 S) := HRD.out.below b26
          clear hE hK hl1 r1 b1 b6 b26 he6
          go_wp2_with fail
          refine (refGet_any n _ S W6 R6.out HSB.out).mono ?_
          intro e w7 h
          obtain ⟨a3, l3, c3, K3, E3, Y3, rfl, hE, hK, hl3, r3, b3, _⟩ := getR_open h
          rw [HE.out] at hE
          rw [HK.out] at hK
          cases hE
          cases hK
          clear h hW6 hq1
          obtain ⟨q3, hq3⟩ : ∃ q, w7.heap.size = q := ⟨_, rfl⟩
          obtain ⟨W8, hW8⟩ : ∃ W8, w7.alloc (.cells #[.int .i64 K, .slice a3 l3 c3] 24) = W8 := ⟨_, rfl⟩
          have b4 : Below w7.heap.size w7 W8 := by rw [← hW8]; exact (Below.refl _ _).alloc (Nat.le_refl _) _
          have b24 : Below W6.heap.size W6 W8 := b3.trans (b4.mono b3.size)
          have V8 : Hid (Bkv W8 q3 K (.slice a3 l3 c3)) := by rw [← hW8, ← hq3]; exact bkv_new w7 _ _
          have X8 : Hid (Bkv W8 q1 K (.slice a1 l1 c1)) := V6.out.below b24
          have B8 : Hid (Below w.heap.size w W8) := B6.out.trans (b24.mono B6.out.size)
          have hs0 := same2_any K K _ _ Y Y W8 (Y6.out.below b24) (r3.below b4)
          have et : (decide (K = K) && decide (Y = Y)) = true := by simp
          rw [et] at hs0
          have HS := hideP hs0
          have p0 := V8.out.c0
          have p1 := V8.out.c1
          have p2 := X8.out.c0
          have p3 := X8.out.c1
          unfold blk at HS
          clear hl3 r3 b3 b4 b24 V6 Y6 R6 B6 hs0 et
          go_wp2_with fail
          refine HS.out.mono ?_
          rintro e w9 ⟨rfl, b9⟩
          have B9 : Hid (Below w.heap.size w w9) := B8.out.trans (b9.mono B8.out.size)
          have ee : (E == E) = true := by simp
          clear b9 p0 p1 p2 p3 hW8 hq3
          go_wp2_with fail
          refine (lives_anyB w9).mono ?_
          rintro e w10 ⟨rfl, b10⟩
          go_wp2_with fail
          go_ret
          exact ⟨rfl, B9.out.trans (b10.mono B9.out.size)⟩
end Go.Proofs.Ytmidcmliiofefaa
