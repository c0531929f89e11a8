import Derived.Test.YtaacidgihhcpkaaYX18
import Derived.Test.YtaacidgihhcpkaaYX12
import Derived.Test.YtaacidgihhcpkaaYX20
import Derived.Test.YtaacidgihhcpkaaYX14
/-
  The document's examples of layer 11 hold.
-/
namespace Go.Proofs.Ytaacidgihhcpkaa
open Go.RowKit Go.Maps Pl
set_option linter.unusedVariables false
set_option linter.unusedSimpArgs false
set_option maxRecDepth 100000

theorem zr_by (n : Nat) : By (zr n) := by_of_memB fun x hx => by unfold zr at hx; rw [List.mem_replicate] at hx; omega
theorem nop_z (g : Nat) : Nop zz g := nop_zz g
def lv1 : DS := jap (DS.new 128) 5 1 2 (zr 300) 2
def lv2 : DS := jap lv1 5 2 4 [] 1
theorem lv_c1 : lv1.c = false := by unfold lv1; rw [jap_c]; rfl
theorem lv_has (j : Nat) (h : j < 128) : lv2.has j = if j = 4 then jsec (pcA 5 2 [] 0) else if 2 ≤ j ∧ j < 4 then jsec (pcA 5 1 (zr 300) (j - 2)) else zz := by
  unfold lv2
  rw [jap_has _ _ _ _ _ lv_c1]
  by_cases e : j = 4
  · subst e; rfl
  · rw [if_neg (by omega), if_neg e]
    unfold lv1
    rw [jap_has _ _ _ _ _ rfl, new_has h]
theorem npc_300 : npc (zr 300).length = 2 := by rw [zr_len]; rfl
theorem npc_0 : npc ([] : List Int).length = 1 := rfl
theorem lv_open5 : jopen lv2.has 5 = [zr 300, []] := by
  have hs : stt [zr 300, []] 1 = 4 := by simp [stt, npc_300]
  have h2 : stt [zr 300, []] 2 = 5 := by rw [stt_succ (by simp), hs]; rfl
  have := open_take (f := lv2.has) (g := 5) (rows := [zr 300, []]) (R := 2) (by simp) (fun r hr => by
    match r, hr with
    | 0, _ =>
      intro i hi
      have hi2 : i < 2 := by simpa [npc_300] using hi
      show lv2.has (2 + i) = jsec (pcA 5 1 (zr 300) i)
      rw [lv_has _ (by omega), if_neg (by omega), if_pos (by omega), Nat.add_sub_cancel_left]
    | 1, _ =>
      intro i hi
      have hi2 : i < 1 := by simpa [npc] using hi
      have hi0 : i = 0 := by omega
      subst hi0
      rw [hs]
      show lv2.has 4 = _
      rw [lv_has _ (by omega), if_pos rfl]
      rfl) (nop_bad fun _ => by rw [h2, lv_has _ (by omega), if_neg (by omega), if_neg (by omega)]; exact nop_z 5) (by rw [h2]; decide) (by decide)
  rw [this]
  rfl
theorem lv_open6 : jopen lv2.has 6 = [] := by
  have := open_take (f := lv2.has) (g := 6) (rows := []) (R := 0) (by simp) (fun r hr => by omega) (nop_bad fun _ => by
    rw [stt_0, lv_has _ (by omega), if_neg (by omega), if_pos (by omega)]
    exact nop_gen (pcA_ok (by rw [npc_300]; decide) (by rw [npc_300]; decide) (by decide) (by decide)) (by decide)) (by decide) (by decide)
  rw [this]
  rfl

set_option maxHeartbeats 1000000 in
theorem lives_anyJ (w : World) : Calls Try.prog 29 #[] w fun e w' => e = .returned (.bool true) ∧ Below w.heap.size w w' := by
  obtain ⟨j0, hj, hy0, hy1, hy2⟩ := info_parts info_u8J
  have HN := hideP (new_ok 128 w (by decide) (by decide))
  go_enter Try.func29, Try.ntmps29
  go_wp2_with fail
  refine HN.out.mono ?_
  rintro e w1 ⟨d, S, rfl, D1, b1, n1⟩
  have HJ := hideP (newJ_any 5 w1 D1 (by simp [DS.new]))
  have HD1 := hideP D1
  have HB1 := hideP b1
  have HN1 := hideP n1
  clear HN D1 b1 n1
  unfold dp at HJ ⊢
  go_wp2_with fail
  refine HJ.out.mono ?_
  rintro e w2 (⟨_, rfl, jb2, b2, s2⟩ | ⟨h, _⟩)
  case inr => exact absurd h (by decide)
  have J2 : Hid (Jd S w w2 d (DS.new 128) w1.heap.size 5 0 2) := jd_new HD1.out HB1.out HN1.out (by simp [DS.new]) (by decide) (by decide) jb2 b2
  obtain ⟨j, hjj⟩ : ∃ j, Hid (w1.heap.size = j) := ⟨_, rfl⟩
  rw [hjj.out] at J2 ⊢
  clear HJ jb2 b2 s2 HD1 HB1 HN1
  go_wp2_with (at_make; refine wpList_make_full _ rfl (.const (.int .i64 300)) (.const (.int .i64 300)) 36 rfl 0 5 j0 _ 1 Try.underlying36 hj hy0 hy1 .i64 .i64 _ _ 300 rfl rfl rfl rfl (by rw [hy2]; decide) (by unfold maxLen; decide) (Nat.zero_le _) ?_)
  intro w3 ho3 hg3
  have b3 : Below w2.heap.size w2 w3 := (Below.refl _ _).grown hg3 (Nat.le_refl _) (fun k e => by cases e)
  obtain ⟨f, hf⟩ : ∃ h, Hid (w2.heap.size = h) := ⟨_, rfl⟩
  have M3 : Hid (w3.heap[f]? = some (.cells (bcs (zr 300)).toArray 5 (0, 0))) := by
    refine made_blkJ ?_
    have h3 := ho3
    rw [toList_madeCells_one, hf.out] at h3
    exact h3
  have W3 : Hid (Wb w3 (.slice (some ⟨f, 0, none⟩) 300 300) (zr 300)) := ⟨f, 300, _, _, by rw [zr_len], by rw [zr_len]; exact Nat.le_refl _, by unfold maxLen; omega, M3.out, by rw [List.toList_toArray, List.take_of_length_le (by rw [bcs_len]; exact Nat.le_refl _)]⟩
  have J3 := hideP (J2.out.below b3)
  have HA := hideP (appJ J3.out (by decide) (.slice (some ⟨f, 0, none⟩) 300 300) (zr 300) W3.out.rd (zr_by 300) (fun k hk _ e => by cases hk; have := J2.out.dk.slt f e; have := hf.out; omega) (fun i => by rw [new_V]; decide))
  rw [hf.out]
  clear ho3 hg3 b3 M3 J2 hj hy0 hy1 hy2
  go_wp2_with fail
  refine HA.out.mono ?_
  rintro e w4 (⟨_, rfl, S4, J4, _⟩ | ⟨h, _⟩)
  case inr => exact absurd (by rw [npc_300]; decide) h
  rw [npc_300] at J4
  have HJ4 : Hid (Jd S4 w w4 d lv1 j 5 1 4) := J4
  have HRM := hideP (room_any j d 5 1 4 w4 HJ4.out.jb (by decide))
  have HA2 := hideP (appJ HJ4.out (by decide) (.slice none 0 0) [] ⟨none, 0, rfl, Nat.le_refl _, by unfold maxLen; omega, fun _ => rfl, .inl rfl⟩ (by_of_memB (by simp)) (fun k hk => by cases hk) (fun i => by have := jap_V (DS.new 128) 5 1 2 (zr 300) 2 i; rw [new_V] at this; simp at this; show ((jap (DS.new 128) 5 1 2 (zr 300) 2).V i).length < _; omega))
  clear HA J4 W3 J3
  go_wp2_with fail
  refine HRM.out.mono ?_
  rintro e w5 ⟨rfl, rfl⟩
  clear HRM
  go_wp2_with fail
  refine HA2.out.mono ?_
  rintro e w6 (⟨_, rfl, S6, J6, _⟩ | ⟨h, _⟩)
  case inr => exact absurd (by decide) h
  have HJ6 : Hid (Jd S6 w w6 d lv2 j 5 2 5) := J6
  have HO := hideP (open_any 5 w6 HJ6.out.dk HJ6.out.l5 (by decide) (by decide))
  rw [lv_open5] at HO
  clear HA2 J6
  unfold dp at HO
  go_wp2_with fail
  refine HO.out.mono ?_
  rintro e w7 ⟨lv, rfl, r7, b7⟩
  obtain ⟨la, lc, rfl, l1, l2, _⟩ := id r7
  obtain ⟨lb, lo, u, rfl, cu, ru⟩ := r7.at_ (Below.refl _ _) (k := 0) (by simp)
  obtain ⟨ua, uc, rfl, u1, u2, _⟩ := id ru
  have J7 := hideP (HJ6.out.below b7)
  have HO6 := hideP (open_any 6 w7 J7.out.dk J7.out.l5 (by decide) (by decide))
  rw [lv_open6] at HO6
  have HC : Hid (w7.cell? ⟨lb, lo, none⟩ = some (.slice ua 300 uc)) := by
    have e : ([zr 300, []] : List (List Int)).getD 0 [] = zr 300 := rfl
    rw [Nat.add_zero, e, zr_len] at cu
    exact cu
  have hlc : lc ≤ 9223372036854775807 := by unfold maxLen at l2; omega
  have huc : uc ≤ 9223372036854775807 := by unfold maxLen at u2; omega
  have hl1 : 2 ≤ lc := l1
  have hu1 : 300 ≤ uc := by
    have e : (([zr 300, []] : List (List Int)).getD 0 []).length = 300 := zr_len 300
    rw [e] at u1
    exact u1
  have HL2 : Hid (([zr 300, []] : List (List Int)).length = 2) := rfl
  rw [HL2.out]
  clear HO r7 b7 cu ru l1 l2 u1 u2 HL2
  unfold dp at HO6
  go_wp2_with fail
  refine HO6.out.mono ?_
  rintro e w8 ⟨mv, rfl, r8, b8⟩
  obtain ⟨ma, mc, rfl, m1, m2, _⟩ := id r8
  have J8 := hideP (J7.out.below b8)
  have hmc : mc ≤ 9223372036854775807 := by unfold maxLen at m2; omega
  have HML : Hid (([] : List (List Int)).length = 0) := rfl
  rw [HML.out]
  have c8 : w8.cell? ⟨lb, lo, none⟩ = some (.slice ua 300 uc) := by rw [(Tch.of_below (S := fun _ => False) b8).cell (p := ⟨lb, lo, none⟩) (World.block_lt_of_cell? w7 ⟨lb, lo, none⟩ HC.out) (fun e => e)]; exact HC.out
  have HMN := hideP (many_any j d 5 2 5 w8 J8.out.jb)
  clear HO6 r8 b8 m1 m2 HC HML
  go_wp2_with fail
  refine HMN.out.mono ?_
  rintro e w9 ⟨rfl, rfl⟩
  go_wp2_with fail
  go_ret
  exact ⟨rfl, J8.out.be⟩
end Go.Proofs.Ytaacidgihhcpkaa
