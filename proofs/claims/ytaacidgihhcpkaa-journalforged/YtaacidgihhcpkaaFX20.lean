import Derived.Test.YtaacidgihhcpkaaFX17
import Derived.Test.YtaacidgihhcpkaaFX10
import Derived.Test.YtaacidgihhcpkaaFX19
import Derived.Test.YtaacidgihhcpkaaFX12
import Derived.Test.YtaacidgihhcpkaaFX18
/-
  The document's examples of layer 11 hold.
-/
namespace Go.Proofs.Ytaacidgihhcpkaa
open Go.RowKit Go.Maps Pl
set_option linter.unusedVariables false
set_option linter.unusedSimpArgs false
set_option maxRecDepth 100000

theorem zr_by (n : Nat) : By (zr n) := by_of_memB fun x hx => by unfold zr at hx; rw [List.mem_replicate] at hx; omega
theorem nop_z (g : Nat) : Nop zz g := nop_zz g
def lv1 : DS := jap (DS.new 128) 5 1 2 (zr 300) 2
def lv2 : DS := jap lv1 5 2 4 [] 1
theorem lv_c1 : lv1.c = false := by unfold lv1; rw [jap_c]; rfl
theorem lv_has (j : Nat) (h : j < 128) : lv2.has j = if j = 4 then jsec (pcA 5 2 [] 0) else if 2 ≤ j ∧ j < 4 then jsec (pcA 5 1 (zr 300) (j - 2)) else zz := by
  unfold lv2
  rw [jap_has _ _ _ _ _ lv_c1]
  by_cases e : j = 4
  · subst e; rfl
  · rw [if_neg (by omega), if_neg e]
    unfold lv1
    rw [jap_has _ _ _ _ _ rfl, new_has h]
theorem npc_300 : npc (zr 300).length = 2 := by rw [zr_len]; rfl
theorem npc_0 : npc ([] : List Int).length = 1 := rfl
theorem lv_open5 : jopen lv2.has 5 = [zr 300, []] := by
  have hs : stt [zr 300, []] 1 = 4 := by simp [stt, npc_300]
  have h2 : stt [zr 300, []] 2 = 5 := by rw [stt_succ (by simp), hs]; rfl
  have := open_take (f := lv2.has) (g := 5) (rows := [zr 300, []]) (R := 2) (by simp) (fun r hr => by
    match r, hr with
    | 0, _ =>
      intro i hi
      have hi2 : i < 2 := by simpa [npc_300] using hi
      show lv2.has (2 + i) = jsec (pcA 5 1 (zr 300) i)
      rw [lv_has _ (by omega), if_neg (by omega), if_pos (by omega), Nat.add_sub_cancel_left]
    | 1, _ =>
      intro i hi
      have hi2 : i < 1 := by simpa [npc] using hi
      have hi0 : i = 0 := by omega
      subst hi0
      rw [hs]
      show lv2.has 4 = _
      rw [lv_has _ (by omega), if_pos rfl]
      rfl) (nop_bad fun _ => by rw [h2, lv_has _ (by omega), if_neg (by omega), if_neg (by omega)]; exact nop_z 5) (by rw [h2]; decide) (by decide)
  rw [this]
  rfl
theorem lv_open6 : jopen lv2.has 6 = [] := by
  have := open_take (f := lv2.has) (g := 6) (rows := []) (R := 0) (by simp) (fun r hr => by omega) (nop_bad fun _ => by
    rw [stt_0, lv_has _ (by omega), if_neg (by omega), if_pos (by omega)]
    exact nop_gen (pcA_ok (by rw [npc_300]; decide) (by rw [npc_300]; decide) (by decide) (by decide)) (by decide)) (by decide) (by decide)
  rw [this]
  rfl

set_option maxHeartbeats 1000000 in
theorem lives_anyJ (w : World) : Calls Try.prog 29 #[] w fun e w' => e = .returned (.bool true) ∧ Below w.heap.size w w' := by
  obtain ⟨j0, hj, hy0, hy1, hy2⟩ := info_parts info_u8J
  have HN := hideP (new_ok 128 w (by decide) (by decide))
  go_enter Try.func29, Try.ntmps29
  go_wp2_with fail
  refine HN.out.mono ?_
  rintro e w1 ⟨d, S, rfl, D1, b1, n1⟩
  have HJ := hideP (newJ_any 5 w1 D1 (by simp [DS.new]))
  have HD1 := hideP D1
  have HB1 := hideP b1
  have HN1 := hideP n1
  clear HN D1 b1 n1
  unfold dp at HJ ⊢
  go_wp2_with fail
  refine HJ.out.mono ?_
  rintro e w2 (⟨_, rfl, jb2, b2, s2⟩ | ⟨h, _⟩)
  case inr => exact absurd h (by decide)
  have J2 : Hid (Jd S w w2 d (DS.new 128) w1.heap.size 5 0 2) := jd_new HD1.out HB1.out HN1.out (by simp [DS.new]) (by decide) (by decide) jb2 b2
  obtain ⟨j, hjj⟩ : ∃ j, Hid (w1.heap.size = j) := ⟨_, rfl⟩
  rw [hjj.out] at J2 ⊢
  clear HJ jb2 b2 s2 HD1 HB1 HN1
  go_wp2_with (at_make; refine wpList_make_full _ rfl (.const (.int .i64 300)) (.const (.int .i64 300)) 36 rfl 0 5 j0 _ 1 Try.underlying36 hj hy0 hy1 .i64 .i64 _ _ 300 rfl rfl rfl rfl (by rw [hy2]; decide) (by unfold maxLen; decide) (Nat.zero_le _) ?_)
  intro w3 ho3 hg3
  have b3 : Below w2.heap.size w2 w3 := (Below.refl _ _).grown hg3 (Nat.le_refl _) (fun k e => by cases e)
  obtain ⟨f, hf⟩ : ∃ h, Hid (w2.heap.size = h) := ⟨_, rfl⟩
  have M3 : Hid (w3.heap[f]? = some (.cells (bcs (zr 300)).toArray 5 (0, 0))) := by
    refine made_blkJ ?_
    have h3 := ho3
    rw [toList_madeCells_one, hf.out] at h3
    exact h3
  have W3 : Hid (Wb w3 (.slice (some ⟨f, 0, none⟩) 300 300) (zr 300)) := ⟨f, 300, _, _, by rw [zr_len], by rw [zr_len]; exact Nat.le_refl _, by unfold maxLen; omega, M3.out, by rw [List.toList_toArray, List.take_of_length_le (by rw [bcs_len]; exact Nat.le_refl _)]⟩
  have J3 := hideP (J2.out.below b3)
  have HA := hideP (appJ J3.out (by decide) (.slice (some ⟨f, 0, none⟩) 300 300) (zr 300) W3.out.rd (zr_by 300) (fun k hk _ e => by cases hk; have := J2.out.dk.slt f e; have := hf.out; omega) (fun i => by rw [new_V]; decide))
  rw [hf.out]
  clear ho3 hg3 b3 M3 J2 hj hy0 hy1 hy2
  go_wp2_with fail
  refine HA.out.mono ?_
  rintro e w4 (⟨_, rfl, S4, J4, _⟩ | ⟨h, _⟩)
  case inr => exact absurd (by rw [npc_300]; decide) h
  rw [npc_300] at J4
  have HJ4 : Hid (Jd S4 w w4 d lv1 j 5 1 4) := J4
  have HRM := hideP (room_any j d 5 1 4 w4 HJ4.out.jb (by decide))
  have HA2 := hideP (appJ HJ4.out (by decide) (.slice none 0 0) [] ⟨none, 0, rfl, Nat.le_refl _, by unfold maxLen; omega, fun _ => rfl, .inl rfl⟩ (by_of_memB (by simp)) (fun k hk => by cases hk) (fun i => by have := jap_V (DS.new 128) 5 1 2 (zr 300) 2 i; rw [new_V] at this; simp at this; show ((jap (DS.new 128) 5 1 2 (zr 300) 2).V i).length < _; omega))
  clear HA J4 W3 J3
  go_wp2_with fail
  refine HRM.out.mono ?_
  rintro e w5 ⟨rfl, rfl⟩
  clear HRM
  go_wp2_with fail
  refine HA2.out.mono ?_
  rintro e w6 (⟨_, rfl, S6, J6, _⟩ | ⟨h, _⟩)
  case inr => exact absurd (by decide) h
  have HJ6 : Hid (Jd S6 w w6 d lv2 j 5 2 5) := J6
  have HO := hideP (open_any 5 w6 HJ6.out.dk HJ6.out.l5 (by decide) (by decide))
  rw [lv_open5] at HO
  clear HA2 J6
  unfold dp at HO
  go_wp2_with fail
  refine HO.out.mono ?_
  rintro e w7 ⟨lv, rfl, r7, b7⟩
  obtain ⟨la, lc, rfl, l1, l2, _⟩ := id r7
  obtain ⟨lb, lo, u, rfl, cu, ru⟩ := r7.at_ (Below.refl _ _) (k := 0) (by simp)
  obtain ⟨ua, uc, rfl, u1, u2, _⟩ := id ru
  have J7 := hideP (HJ6.out.below b7)
  have HO6 := hideP (open_any 6 w7 J7.out.dk J7.out.l5 (by decide) (by decide))
  rw [lv_open6] at HO6
  have HC : Hid (w7.cell? ⟨lb, lo, none⟩ = some (.slice ua 300 uc)) := by
    have e : ([zr 300, []] : List (List Int)).getD 0 [] = zr 300 := rfl
    rw [Nat.add_zero, e, zr_len] at cu
    exact cu
  have hlc : lc ≤ 9223372036854775807 := by unfold maxLen at l2; omega
  have huc : uc ≤ 9223372036854775807 := by unfold maxLen at u2; omega
  have hl1 : 2 ≤ lc := l1
  have hu1 : 300 ≤ uc := by
    have e : (([zr 300, []] : List (List Int)).getD 0 []).length = 300 := zr_len 300
    rw [e] at u1
    exact u1
  have HL2 : Hid (([zr 300, []] : List (List Int)).length = 2) := rfl
  rw [HL2.out]
  clear HO r7 b7 cu ru l1 l2 u1 u2 HL2
  unfold dp at HO6
  go_wp2_with fail
  refine HO6.out.mono ?_
  rintro e w8 ⟨mv, rfl, r8, b8⟩
  obtain ⟨ma, mc, rfl, m1, m2, _⟩ := id r8
  have J8 := hideP (J7.out.below b8)
  have hmc : mc ≤ 9223372036854775807 := by unfold maxLen at m2; omega
  have HML : Hid (([] : List (List Int)).length = 0) := rfl
  rw [HML.out]
  have c8 : w8.cell? ⟨lb, lo, none⟩ = some (.slice ua 300 uc) := by rw [(Tch.of_below (S := fun _ => False) b8).cell (p := ⟨lb, lo, none⟩) (World.block_lt_of_cell? w7 ⟨lb, lo, none⟩ HC.out) (fun e => e)]; exact HC.out
  have HMN := hideP (many_any j d 5 2 5 w8 J8.out.jb)
  clear HO6 r8 b8 m1 m2 HC HML
  go_wp2_with fail
  refine HMN.out.mono ?_
  rintro e w9 ⟨rfl, rfl⟩
  go_wp2_with fail
  go_ret
  exact ⟨rfl, J8.out.be⟩
end Go.Proofs.Ytaacidgihhcpkaa
/-
  Flushes and rotten bits, plainly: what sectors tell then.
-/
namespace Go.Proofs.Ytaacidgihhcpkaa
open Go.RowKit Pl
set_option linter.unusedVariables false

theorem fl_can {s : DS} (hc : s.c = false) : s.fl = { s.tick with L := (List.range s.L.length).map s.has, V := fun _ => [] } := by
  unfold DS.fl
  rw [if_pos (by simp [DS.can, hc])]
theorem fl_c {s : DS} : s.fl.c = s.c := by
  unfold DS.fl DS.tick
  split <;> rfl
theorem fl_V0 {s : DS} (hc : s.c = false) (i : Nat) : s.fl.V i = [] := by rw [fl_can hc]
theorem fl_has {s : DS} (hc : s.c = false) {i : Nat} (hi : i < s.L.length) : s.fl.has i = s.has i := by
  unfold DS.has
  rw [fl_V0 hc, fl_can hc]
  show ((List.range s.L.length).map s.has).getD i [] = s.has i
  rw [List.getD_eq_getElem?_getD, List.getElem?_map, List.getElem?_range hi]
  rfl
theorem rot_L {s : DS} (b : Nat) : (s.rot b).L.length = s.L.length := by simp [DS.rot]
theorem rot_has {s : DS} {p b : Nat} (hp : p < s.L.length) (hb : b < 2048) (hV : s.V p = []) (i : Nat) : (s.rot (2048 * p + b)).has i = if i = p then trn b (s.has p) else s.has i := by
  have e1 : (2048 * p + b) / 2048 = p := by omega
  have e2 : (2048 * p + b) % 2048 = b := by omega
  unfold DS.has DS.rot
  rw [e1, e2]
  show (vput s.V p ((s.V p).map (trn b)) i).getLastD ((s.L.set p (trn b (s.L.getD p []))).getD i []) = _
  unfold vput
  by_cases h : i = p
  · subst h
    rw [if_pos rfl, if_pos rfl, hV]
    show (s.L.set i (trn b (s.L.getD i []))).getD i [] = trn b (s.L.getD i [])
    rw [List.getD_eq_getElem?_getD, List.getElem?_set_self hp]
    rfl
  · rw [if_neg h, if_neg h, List.getD_eq_getElem?_getD, List.getElem?_set_ne (fun e => h e.symm), ← List.getD_eq_getElem?_getD]

theorem dd_oneJ {p q : Nat} (hp : p < 2048) : dd p 1 2048 32 q = decide (q = p) := by
  unfold dd
  by_cases e : q = p
  · subst e
    simp
    omega
  · rw [decide_eq_false e]
    by_cases h : p ≤ q ∧ q < p + 32 ∧ q < 2048
    · rw [decide_eq_true h, Bool.true_and]
      have h1 : (2 ^ 0 : Nat).testBit (q - p) = false := Nat.testBit_two_pow_of_ne (by omega)
      exact h1
    · rw [decide_eq_false h, Bool.false_and]
/-- A rotten bit is told. -/
theorem nop_trn {xs : List Int} (hl : xs.length = 256) (hb : By xs) (hs : xs = smd xs) {p : Nat} (hp : p < 2048) (g : Nat) : Nop (trn p xs) g := by
  obtain ⟨tl, tb⟩ := trn_ok hp hl hb
  have := (sec_told (A := p) (mask := 1) hl tl hb tb hs (by omega) (fun j i hj hi => by
    rw [dd_oneJ hp]
    unfold bN trn
    by_cases e : j = p / 8
    · subst e
      rw [List.getD_eq_getElem?_getD, List.getElem?_set_self (by rw [hl]; omega)]
      show (Int.toNat ((xs.getD (p / 8) 0).toNat ^^^ 2 ^ (p % 8) : Nat)).testBit i = _
      rw [Int.toNat_natCast, Nat.testBit_xor, Nat.testBit_two_pow]
      congr 1
      by_cases e2 : p % 8 = i
      · rw [decide_eq_true e2, decide_eq_true (by omega)]
      · rw [decide_eq_false e2, decide_eq_false (by omega)]
    · rw [decide_eq_false (by omega), Bool.xor_false, List.getD_eq_getElem?_getD, List.getElem?_set_ne (fun h => e h.symm), ← List.getD_eq_getElem?_getD])).1 ⟨p, by rw [dd_oneJ hp]; simp⟩
  exact fun i m n h => this h.smd

/-- Which record has a sector. -/
def OwI (rows : List (List Int)) (ow : List Int) : Prop := ow.length + 2 = stt rows rows.length ∧ ∀ i, i < ow.length → ∃ r : Nat, r < rows.length ∧ ow.getD i 0 = (r : Int) ∧ stt rows r ≤ 2 + i ∧ 2 + i < stt rows (r + 1)
theorem owI_nil : OwI [] [] := ⟨rfl, fun i hi => by simp at hi⟩
theorem OwI.app {rows : List (List Int)} {ow : List Int} (h : OwI rows ow) (ys : List Int) : OwI (rows ++ [ys]) (ow ++ List.replicate (npc ys.length) (rows.length : Int)) := by
  refine ⟨by rw [List.length_append, List.length_replicate, List.length_append]; show _ = stt (rows ++ [ys]) (rows.length + 1); rw [stt_end, ← h.1]; omega, fun i hi => ?_⟩
  by_cases e : i < ow.length
  · obtain ⟨r, h1, h2, h3, h4⟩ := h.2 i e
    refine ⟨r, by simp; omega, ?_, by rw [stt_app ys (by omega)]; exact h3, by rw [stt_app ys (by omega)]; exact h4⟩
    rw [List.getD_eq_getElem?_getD, List.getElem?_append_left e, ← List.getD_eq_getElem?_getD]
    exact h2
  · rw [List.length_append, List.length_replicate] at hi
    have := h.1
    refine ⟨rows.length, by simp, ?_, by rw [stt_app ys (Nat.le_refl _)]; omega, by rw [stt_end]; omega⟩
    rw [List.getD_eq_getElem?_getD, List.getElem?_append_right (by omega), List.getElem?_replicate, if_pos (by omega)]
    rfl

/-- Behind a rotten bit just the records ahead of it are told. -/
theorem rot_open {s : DS} {g : Nat} {rows : List (List Int)} (hby : ∀ y ∈ rows, By y) (hcur : ∀ r, r < rows.length → CurAt s.has g (r + 1) (stt rows r) (rows.getD r [])) (hL : 50 ≤ s.L.length) (hl : stt rows rows.length ≤ 50) (hg : g < 4294967296) {p b r : Nat} (hb : b < 2048) (hV : s.V p = []) (hr : r < rows.length) (h1 : stt rows r ≤ p) (h2 : p < stt rows (r + 1)) :
    jopen (s.rot (2048 * p + b)).has g = rows.take r := by
  have m1 := stt_mono (rows := rows) (r := r + 1) (q := rows.length) (by omega) (Nat.le_refl _)
  have m0 := stt_succ hr
  have m2 := stt_2 rows r
  have m3 := stt_mono (rows := rows) (r := 0) (q := r) (by omega) (by omega)
  rw [stt_0] at m3
  have hh := rot_has (s := s) (p := p) (b := b) (by omega) hb hV
  have hne : ∀ q, q ≠ p → (s.rot (2048 * p + b)).has q = s.has q := fun q hq => by rw [hh, if_neg hq]
  have hyb : By (rows.getD r []) := by
    rw [List.getD_eq_getElem?_getD, List.getElem?_eq_getElem hr]
    exact hby _ (List.getElem_mem hr)
  refine open_take (by omega) (fun q hq i hi => ?_) ?_ (by omega) hg
  · have m4 := stt_mono (rows := rows) (r := q + 1) (q := r) (by omega) (by omega)
    have m5 := stt_succ (rows := rows) (r := q) (by omega)
    rw [hne _ (by omega)]
    exact hcur q (by omega) i hi
  · obtain ⟨k, hk⟩ : ∃ k, p = stt rows r + k := ⟨p - stt rows r, by omega⟩
    refine cur_bad (ys := rows.getD r []) (q := k) m2 (by omega) hg (by omega) (by omega) (fun i hi => ?_) ?_
    · rw [hne _ (by omega)]
      exact hcur r hr i (by omega)
    · rw [← hk, hh, if_pos rfl, hk, hcur r hr k (by omega)]
      have ok := pcA_ok (g := g) (n := r + 1) (ys := rows.getD r []) (i := k) (by omega) (by omega) hg (by omega)
      exact nop_trn (jsec_len ok.len) (jsec_by (chk_by hyb k)) (jsec_smd ok.len) hb g
theorem rows_open_all {s : DS} {g : Nat} {rows : List (List Int)} (hcur : ∀ r, r < rows.length → CurAt s.has g (r + 1) (stt rows r) (rows.getD r [])) (hl : stt rows rows.length ≤ 50) (hg : g < 4294967296) (he : stt rows rows.length < 50 → Nop (s.has (stt rows rows.length)) g) : jopen s.has g = rows := by
  have := open_take (f := s.has) (R := rows.length) (Nat.le_refl _) hcur (nop_bad he) hl hg
  rw [List.take_length] at this
  exact this
end Go.Proofs.Ytaacidgihhcpkaa
