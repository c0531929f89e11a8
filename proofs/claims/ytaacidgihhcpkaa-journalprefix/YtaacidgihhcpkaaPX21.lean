import Derived.Test.YtaacidgihhcpkaaPX18
import Derived.Test.YtaacidgihhcpkaaPX12
import Derived.Test.YtaacidgihhcpkaaPX20
import Derived.Test.YtaacidgihhcpkaaPX14
import Derived.Test.YtaacidgihhcpkaaPX19
import Derived.Test.YtaacidgihhcpkaaPX03
import Derived.Test.YtaacidgihhcpkaaPX07
/-
  The document's examples of layer 11 hold.
-/
namespace Go.Proofs.Ytaacidgihhcpkaa
open Go.RowKit Go.Maps Pl
set_option linter.unusedVariables false
set_option linter.unusedSimpArgs false
set_option maxRecDepth 100000

theorem zr_by (n : Nat) : By (zr n) := by_of_memB fun x hx => by unfold zr at hx; rw [List.mem_replicate] at hx; omega
theorem nop_z (g : Nat) : Nop zz g := nop_zz g
def lv1 : DS := jap (DS.new 128) 5 1 2 (zr 300) 2
def lv2 : DS := jap lv1 5 2 4 [] 1
theorem lv_c1 : lv1.c = false := by unfold lv1; rw [jap_c]; rfl
theorem lv_has (j : Nat) (h : j < 128) : lv2.has j = if j = 4 then jsec (pcA 5 2 [] 0) else if 2 ≤ j ∧ j < 4 then jsec (pcA 5 1 (zr 300) (j - 2)) else zz := by
  unfold lv2
  rw [jap_has _ _ _ _ _ lv_c1]
  by_cases e : j = 4
  · subst e; rfl
  · rw [if_neg (by omega), if_neg e]
    unfold lv1
    rw [jap_has _ _ _ _ _ rfl, new_has h]
theorem npc_300 : npc (zr 300).length = 2 := by rw [zr_len]; rfl
theorem npc_0 : npc ([] : List Int).length = 1 := rfl
theorem lv_open5 : jopen lv2.has 5 = [zr 300, []] := by
  have hs : stt [zr 300, []] 1 = 4 := by simp [stt, npc_300]
  have h2 : stt [zr 300, []] 2 = 5 := by rw [stt_succ (by simp), hs]; rfl
  have := open_take (f := lv2.has) (g := 5) (rows := [zr 300, []]) (R := 2) (by simp) (fun r hr => by
    match r, hr with
    | 0, _ =>
      intro i hi
      have hi2 : i < 2 := by simpa [npc_300] using hi
      show lv2.has (2 + i) = jsec (pcA 5 1 (zr 300) i)
      rw [lv_has _ (by omega), if_neg (by omega), if_pos (by omega), Nat.add_sub_cancel_left]
    | 1, _ =>
      intro i hi
      have hi2 : i < 1 := by simpa [npc] using hi
      have hi0 : i = 0 := by omega
      subst hi0
      rw [hs]
      show lv2.has 4 = _
      rw [lv_has _ (by omega), if_pos rfl]
      rfl) (nop_bad fun _ => by rw [h2, lv_has _ (by omega), if_neg (by omega), if_neg (by omega)]; exact nop_z 5) (by rw [h2]; decide) (by decide)
  rw [this]
  rfl
theorem lv_open6 : jopen lv2.has 6 = [] := by
  have := open_take (f := lv2.has) (g := 6) (rows := []) (R := 0) (by simp) (fun r hr => by omega) (nop_bad fun _ => by
    rw [stt_0, lv_has _ (by omega), if_neg (by omega), if_pos (by omega)]
    exact nop_gen (pcA_ok (by rw [npc_300]; decide) (by rw [npc_300]; decide) (by decide) (by decide)) (by decide)) (by decide) (by decide)
  rw [this]
  rfl

set_option maxHeartbeats 1000000 in
theorem lives_anyJ (w : World) : Calls Try.prog 29 #[] w fun e w' => e = .returned (.bool true) ∧ Below w.heap.size w w' := by
  obtain ⟨j0, hj, hy0, hy1, hy2⟩ := info_parts info_u8J
  have HN := hideP (new_ok 128 w (by decide) (by decide))
  go_enter Try.func29, Try.ntmps29
  go_wp2_with fail
  refine HN.out.mono ?_
  rintro e w1 ⟨d, S, rfl, D1, b1, n1⟩
  have HJ := hideP (newJ_any 5 w1 D1 (by simp [DS.new]))
  have HD1 := hideP D1
  have HB1 := hideP b1
  have HN1 := hideP n1
  clear HN D1 b1 n1
  unfold dp at HJ ⊢
  go_wp2_with fail
  refine HJ.out.mono ?_
  rintro e w2 (⟨_, rfl, jb2, b2, s2⟩ | ⟨h, _⟩)
  case inr => exact absurd h (by decide)
  have J2 : Hid (Jd S w w2 d (DS.new 128) w1.heap.size 5 0 2) := jd_new HD1.out HB1.out HN1.out (by simp [DS.new]) (by decide) (by decide) jb2 b2
  obtain ⟨j, hjj⟩ : ∃ j, Hid (w1.heap.size = j) := ⟨_, rfl⟩
  rw [hjj.out] at J2 ⊢
  clear HJ jb2 b2 s2 HD1 HB1 HN1
  go_wp2_with (at_make; refine wpList_make_full _ rfl (.const (.int .i64 300)) (.const (.int .i64 300)) 36 rfl 0 5 j0 _ 1 Try.underlying36 hj hy0 hy1 .i64 .i64 _ _ 300 rfl rfl rfl rfl (by rw [hy2]; decide) (by unfold maxLen; decide) (Nat.zero_le _) ?_)
  intro w3 ho3 hg3
  have b3 : Below w2.heap.size w2 w3 := (Below.refl _ _).grown hg3 (Nat.le_refl _) (fun k e => by cases e)
  obtain ⟨f, hf⟩ : ∃ h, Hid (w2.heap.size = h) := ⟨_, rfl⟩
  have M3 : Hid (w3.heap[f]? = some (.cells (bcs (zr 300)).toArray 5 (0, 0))) := by
    refine made_blkJ ?_
    have h3 := ho3
    rw [toList_madeCells_one, hf.out] at h3
    exact h3
  have W3 : Hid (Wb w3 (.slice (some ⟨f, 0, none⟩) 300 300) (zr 300)) := ⟨f, 300, _, _, by rw [zr_len], by rw [zr_len]; exact Nat.le_refl _, by unfold maxLen; omega, M3.out, by rw [List.toList_toArray, List.take_of_length_le (by rw [bcs_len]; exact Nat.le_refl _)]⟩
  have J3 := hideP (J2.out.below b3)
  have HA := hideP (appJ J3.out (by decide) (.slice (some ⟨f, 0, none⟩) 300 300) (zr 300) W3.out.rd (zr_by 300) (fun k hk _ e => by cases hk; have := J2.out.dk.slt f e; have := hf.out; omega) (fun i => by rw [new_V]; decide))
  rw [hf.out]
  clear ho3 hg3 b3 M3 J2 hj hy0 hy1 hy2
  go_wp2_with fail
  refine HA.out.mono ?_
  rintro e w4 (⟨_, rfl, S4, J4, _⟩ | ⟨h, _⟩)
  case inr => exact absurd (by rw [npc_300]; decide) h
  rw [npc_300] at J4
  have HJ4 : Hid (Jd S4 w w4 d lv1 j 5 1 4) := J4
  have HRM := hideP (room_any j d 5 1 4 w4 HJ4.out.jb (by decide))
  have HA2 := hideP (appJ HJ4.out (by decide) (.slice none 0 0) [] ⟨none, 0, rfl, Nat.le_refl _, by unfold maxLen; omega, fun _ => rfl, .inl rfl⟩ (by_of_memB (by simp)) (fun k hk => by cases hk) (fun i => by have := jap_V (DS.new 128) 5 1 2 (zr 300) 2 i; rw [new_V] at this; simp at this; show ((jap (DS.new 128) 5 1 2 (zr 300) 2).V i).length < _; omega))
  clear HA J4 W3 J3
  go_wp2_with fail
  refine HRM.out.mono ?_
  rintro e w5 ⟨rfl, rfl⟩
  clear HRM
  go_wp2_with fail
  refine HA2.out.mono ?_
  rintro e w6 (⟨_, rfl, S6, J6, _⟩ | ⟨h, _⟩)
  case inr => exact absurd (by decide) h
  have HJ6 : Hid (Jd S6 w w6 d lv2 j 5 2 5) := J6
  have HO := hideP (open_any 5 w6 HJ6.out.dk HJ6.out.l5 (by decide) (by decide))
  rw [lv_open5] at HO
  clear HA2 J6
  unfold dp at HO
  go_wp2_with fail
  refine HO.out.mono ?_
  rintro e w7 ⟨lv, rfl, r7, b7⟩
  obtain ⟨la, lc, rfl, l1, l2, _⟩ := id r7
  obtain ⟨lb, lo, u, rfl, cu, ru⟩ := r7.at_ (Below.refl _ _) (k := 0) (by simp)
  obtain ⟨ua, uc, rfl, u1, u2, _⟩ := id ru
  have J7 := hideP (HJ6.out.below b7)
  have HO6 := hideP (open_any 6 w7 J7.out.dk J7.out.l5 (by decide) (by decide))
  rw [lv_open6] at HO6
  have HC : Hid (w7.cell? ⟨lb, lo, none⟩ = some (.slice ua 300 uc)) := by
    have e : ([zr 300, []] : List (List Int)).getD 0 [] = zr 300 := rfl
    rw [Nat.add_zero, e, zr_len] at cu
    exact cu
  have hlc : lc ≤ 9223372036854775807 := by unfold maxLen at l2; omega
  have huc : uc ≤ 9223372036854775807 := by unfold maxLen at u2; omega
  have hl1 : 2 ≤ lc := l1
  have hu1 : 300 ≤ uc := by
    have e : (([zr 300, []] : List (List Int)).getD 0 []).length = 300 := zr_len 300
    rw [e] at u1
    exact u1
  have HL2 : Hid (([zr 300, []] : List (List Int)).length = 2) := rfl
  rw [HL2.out]
  clear HO r7 b7 cu ru l1 l2 u1 u2 HL2
  unfold dp at HO6
  go_wp2_with fail
  refine HO6.out.mono ?_
  rintro e w8 ⟨mv, rfl, r8, b8⟩
  obtain ⟨ma, mc, rfl, m1, m2, _⟩ := id r8
  have J8 := hideP (J7.out.below b8)
  have hmc : mc ≤ 9223372036854775807 := by unfold maxLen at m2; omega
  have HML : Hid (([] : List (List Int)).length = 0) := rfl
  rw [HML.out]
  have c8 : w8.cell? ⟨lb, lo, none⟩ = some (.slice ua 300 uc) := by rw [(Tch.of_below (S := fun _ => False) b8).cell (p := ⟨lb, lo, none⟩) (World.block_lt_of_cell? w7 ⟨lb, lo, none⟩ HC.out) (fun e => e)]; exact HC.out
  have HMN := hideP (many_any j d 5 2 5 w8 J8.out.jb)
  clear HO6 r8 b8 m1 m2 HC HML
  go_wp2_with fail
  refine HMN.out.mono ?_
  rintro e w9 ⟨rfl, rfl⟩
  go_wp2_with fail
  go_ret
  exact ⟨rfl, J8.out.be⟩
end Go.Proofs.Ytaacidgihhcpkaa
/-
  Flushes and rotten bits, plainly: what sectors tell then.
-/
namespace Go.Proofs.Ytaacidgihhcpkaa
open Go.RowKit Pl
set_option linter.unusedVariables false

theorem fl_can {s : DS} (hc : s.c = false) : s.fl = { s.tick with L := (List.range s.L.length).map s.has, V := fun _ => [] } := by
  unfold DS.fl
  rw [if_pos (by simp [DS.can, hc])]
theorem fl_c {s : DS} : s.fl.c = s.c := by
  unfold DS.fl DS.tick
  split <;> rfl
theorem fl_V0 {s : DS} (hc : s.c = false) (i : Nat) : s.fl.V i = [] := by rw [fl_can hc]
theorem fl_has {s : DS} (hc : s.c = false) {i : Nat} (hi : i < s.L.length) : s.fl.has i = s.has i := by
  unfold DS.has
  rw [fl_V0 hc, fl_can hc]
  show ((List.range s.L.length).map s.has).getD i [] = s.has i
  rw [List.getD_eq_getElem?_getD, List.getElem?_map, List.getElem?_range hi]
  rfl
theorem rot_L {s : DS} (b : Nat) : (s.rot b).L.length = s.L.length := by simp [DS.rot]
theorem rot_has {s : DS} {p b : Nat} (hp : p < s.L.length) (hb : b < 2048) (hV : s.V p = []) (i : Nat) : (s.rot (2048 * p + b)).has i = if i = p then trn b (s.has p) else s.has i := by
  have e1 : (2048 * p + b) / 2048 = p := by omega
  have e2 : (2048 * p + b) % 2048 = b := by omega
  unfold DS.has DS.rot
  rw [e1, e2]
  show (vput s.V p ((s.V p).map (trn b)) i).getLastD ((s.L.set p (trn b (s.L.getD p []))).getD i []) = _
  unfold vput
  by_cases h : i = p
  · subst h
    rw [if_pos rfl, if_pos rfl, hV]
    show (s.L.set i (trn b (s.L.getD i []))).getD i [] = trn b (s.L.getD i [])
    rw [List.getD_eq_getElem?_getD, List.getElem?_set_self hp]
    rfl
  · rw [if_neg h, if_neg h, List.getD_eq_getElem?_getD, List.getElem?_set_ne (fun e => h e.symm), ← List.getD_eq_getElem?_getD]

theorem dd_oneJ {p q : Nat} (hp : p < 2048) : dd p 1 2048 32 q = decide (q = p) := by
  unfold dd
  by_cases e : q = p
  · subst e
    simp
    omega
  · rw [decide_eq_false e]
    by_cases h : p ≤ q ∧ q < p + 32 ∧ q < 2048
    · rw [decide_eq_true h, Bool.true_and]
      have h1 : (2 ^ 0 : Nat).testBit (q - p) = false := Nat.testBit_two_pow_of_ne (by omega)
      exact h1
    · rw [decide_eq_false h, Bool.false_and]
/-- A rotten bit is told. -/
theorem nop_trn {xs : List Int} (hl : xs.length = 256) (hb : By xs) (hs : xs = smd xs) {p : Nat} (hp : p < 2048) (g : Nat) : Nop (trn p xs) g := by
  obtain ⟨tl, tb⟩ := trn_ok hp hl hb
  have := (sec_told (A := p) (mask := 1) hl tl hb tb hs (by omega) (fun j i hj hi => by
    rw [dd_oneJ hp]
    unfold bN trn
    by_cases e : j = p / 8
    · subst e
      rw [List.getD_eq_getElem?_getD, List.getElem?_set_self (by rw [hl]; omega)]
      show (Int.toNat ((xs.getD (p / 8) 0).toNat ^^^ 2 ^ (p % 8) : Nat)).testBit i = _
      rw [Int.toNat_natCast, Nat.testBit_xor, Nat.testBit_two_pow]
      congr 1
      by_cases e2 : p % 8 = i
      · rw [decide_eq_true e2, decide_eq_true (by omega)]
      · rw [decide_eq_false e2, decide_eq_false (by omega)]
    · rw [decide_eq_false (by omega), Bool.xor_false, List.getD_eq_getElem?_getD, List.getElem?_set_ne (fun h => e h.symm), ← List.getD_eq_getElem?_getD])).1 ⟨p, by rw [dd_oneJ hp]; simp⟩
  exact fun i m n h => this h.smd

/-- Which record has a sector. -/
def OwI (rows : List (List Int)) (ow : List Int) : Prop := ow.length + 2 = stt rows rows.length ∧ ∀ i, i < ow.length → ∃ r : Nat, r < rows.length ∧ ow.getD i 0 = (r : Int) ∧ stt rows r ≤ 2 + i ∧ 2 + i < stt rows (r + 1)
theorem owI_nil : OwI [] [] := ⟨rfl, fun i hi => by simp at hi⟩
theorem OwI.app {rows : List (List Int)} {ow : List Int} (h : OwI rows ow) (ys : List Int) : OwI (rows ++ [ys]) (ow ++ List.replicate (npc ys.length) (rows.length : Int)) := by
  refine ⟨by rw [List.length_append, List.length_replicate, List.length_append]; show _ = stt (rows ++ [ys]) (rows.length + 1); rw [stt_end, ← h.1]; omega, fun i hi => ?_⟩
  by_cases e : i < ow.length
  · obtain ⟨r, h1, h2, h3, h4⟩ := h.2 i e
    refine ⟨r, by simp; omega, ?_, by rw [stt_app ys (by omega)]; exact h3, by rw [stt_app ys (by omega)]; exact h4⟩
    rw [List.getD_eq_getElem?_getD, List.getElem?_append_left e, ← List.getD_eq_getElem?_getD]
    exact h2
  · rw [List.length_append, List.length_replicate] at hi
    have := h.1
    refine ⟨rows.length, by simp, ?_, by rw [stt_app ys (Nat.le_refl _)]; omega, by rw [stt_end]; omega⟩
    rw [List.getD_eq_getElem?_getD, List.getElem?_append_right (by omega), List.getElem?_replicate, if_pos (by omega)]
    rfl

/-- Behind a rotten bit just the records ahead of it are told. -/
theorem rot_open {s : DS} {g : Nat} {rows : List (List Int)} (hby : ∀ y ∈ rows, By y) (hcur : ∀ r, r < rows.length → CurAt s.has g (r + 1) (stt rows r) (rows.getD r [])) (hL : 50 ≤ s.L.length) (hl : stt rows rows.length ≤ 50) (hg : g < 4294967296) {p b r : Nat} (hb : b < 2048) (hV : s.V p = []) (hr : r < rows.length) (h1 : stt rows r ≤ p) (h2 : p < stt rows (r + 1)) :
    jopen (s.rot (2048 * p + b)).has g = rows.take r := by
  have m1 := stt_mono (rows := rows) (r := r + 1) (q := rows.length) (by omega) (Nat.le_refl _)
  have m0 := stt_succ hr
  have m2 := stt_2 rows r
  have m3 := stt_mono (rows := rows) (r := 0) (q := r) (by omega) (by omega)
  rw [stt_0] at m3
  have hh := rot_has (s := s) (p := p) (b := b) (by omega) hb hV
  have hne : ∀ q, q ≠ p → (s.rot (2048 * p + b)).has q = s.has q := fun q hq => by rw [hh, if_neg hq]
  have hyb : By (rows.getD r []) := by
    rw [List.getD_eq_getElem?_getD, List.getElem?_eq_getElem hr]
    exact hby _ (List.getElem_mem hr)
  refine open_take (by omega) (fun q hq i hi => ?_) ?_ (by omega) hg
  · have m4 := stt_mono (rows := rows) (r := q + 1) (q := r) (by omega) (by omega)
    have m5 := stt_succ (rows := rows) (r := q) (by omega)
    rw [hne _ (by omega)]
    exact hcur q (by omega) i hi
  · obtain ⟨k, hk⟩ : ∃ k, p = stt rows r + k := ⟨p - stt rows r, by omega⟩
    refine cur_bad (ys := rows.getD r []) (q := k) m2 (by omega) hg (by omega) (by omega) (fun i hi => ?_) ?_
    · rw [hne _ (by omega)]
      exact hcur r hr i (by omega)
    · rw [← hk, hh, if_pos rfl, hk, hcur r hr k (by omega)]
      have ok := pcA_ok (g := g) (n := r + 1) (ys := rows.getD r []) (i := k) (by omega) (by omega) hg (by omega)
      exact nop_trn (jsec_len ok.len) (jsec_by (chk_by hyb k)) (jsec_smd ok.len) hb g
theorem rows_open_all {s : DS} {g : Nat} {rows : List (List Int)} (hcur : ∀ r, r < rows.length → CurAt s.has g (r + 1) (stt rows r) (rows.getD r [])) (hl : stt rows rows.length ≤ 50) (hg : g < 4294967296) (he : stt rows rows.length < 50 → Nop (s.has (stt rows rows.length)) g) : jopen s.has g = rows := by
  have := open_take (f := s.has) (R := rows.length) (Nat.le_refl _) hcur (nop_bad he) hl hg
  rw [List.take_length] at this
  exact this
end Go.Proofs.Ytaacidgihhcpkaa
/-
  Journals of rising generations over one disk, plainly: behind any loss of power a first part is told.
-/
namespace Go.Proofs.Ytaacidgihhcpkaa
open Go.RowKit Pl
set_option linter.unusedVariables false
set_option linter.unusedSimpArgs false

theorem has_mem (s : DS) (p : Nat) : s.has p ∈ s.L.getD p [] :: s.V p := by
  unfold DS.has
  cases h : s.V p with
  | nil => simp
  | cons x r =>
    rw [List.getLastD_eq_getLast?, List.getLast?_eq_some_getLast (by simp)]
    exact List.mem_cons_of_mem _ (List.getLast_mem _)
theorem gsJ_same {α : Type} {l : List α} {i : Nat} {x d : α} (h : i < l.length) : (l.set i x).getD i d = x := by simp [List.getD_eq_getElem?_getD, h]
theorem gsJ_ne {α : Type} {l : List α} {i j : Nat} {x d : α} (h : ¬ i = j) : (l.set i x).getD j d = l.getD j d := by simp [List.getD_eq_getElem?_getD, List.getElem?_set, h]
theorem pers_memJ {s : DS} {ds : List Nat} {ps : List Int} (i : Nat) : ∀ k, ((s.pers ds ps k).L.getD i [] ∈ s.L.getD i [] :: s.V i) ∧ ((s.pers ds ps k).V i = s.V i ∨ (s.pers ds ps k).V i = []) ∧ (s.pers ds ps k).L.length = s.L.length
  | 0 => ⟨by simp [DS.pers], .inl rfl, rfl⟩
  | k + 1 => by
    obtain ⟨h1, h2, h3⟩ := pers_memJ (s := s) (ds := ds) (ps := ps) i k
    rw [DS.pers]
    unfold DS.per
    generalize s.pers ds ps k = t at h1 h2 h3
    dsimp only
    refine ⟨?_, ?_, ?_⟩
    · split
      · rename_i hc
        by_cases e : ds.getD k 0 = i
        · rw [e] at hc ⊢
          by_cases hi : i < t.L.length
          · rw [gsJ_same hi]
            show (t.V i).getD (rem (ps.getD k 0) (t.V i).length - 1) [] ∈ _
            rcases h2 with h2 | h2
            · rw [h2] at hc ⊢
              have hr : rem (ps.getD k 0) (s.V i).length ≤ (s.V i).length := by
                unfold rem
                have h := Int.emod_lt_of_pos (ps.getD k 0) (show (0 : Int) < ((s.V i).length : Int) + 1 by omega)
                have h0 := Int.emod_nonneg (ps.getD k 0) (show ((s.V i).length : Int) + 1 ≠ 0 by omega)
                omega
              have hm : (s.V i).getD (rem (ps.getD k 0) (s.V i).length - 1) [] ∈ s.V i := by
                rw [List.getD_eq_getElem?_getD, List.getElem?_eq_getElem (by omega)]
                exact List.getElem_mem _
              exact List.mem_cons_of_mem _ hm
            · rw [h2] at hc
              exfalso
              have : rem (ps.getD k 0) ([] : List (List Int)).length = 0 := by
                unfold rem
                simp
              omega
          · rw [List.set_eq_of_length_le (by omega)]
            exact h1
        · rw [gsJ_ne e]
          exact h1
      · exact h1
    · unfold vput
      split
      · exact .inr rfl
      · exact h2
    · split
      · rw [List.length_set]; exact h3
      · exact h3
theorem pw_memJ (s : DS) (ps : List Int) (i : Nat) : (s.pw ps).L.getD i [] ∈ s.L.getD i [] :: s.V i := (pers_memJ i _).1
theorem pw_c (s : DS) (ps : List Int) : (s.pw ps).c = false := rfl

/-- What the sectors hold, in generation g, with these records, of which the first fl were flushed. -/
structure Px (s : DS) (g : Nat) (rows : List (List Int)) (fl k : Nat) : Prop where
  c0 : s.c = false
  l6 : s.L.length = 60
  vo : ∀ i, s.L.length ≤ i → s.V i = []
  cu : ∀ r, r < rows.length → CurAt s.has g (r + 1) (stt rows r) (rows.getD r [])
  a5 : stt rows rows.length ≤ 50
  old : ∀ p, 2 ≤ p → p < 50 → ∀ x ∈ s.L.getD p [] :: s.V p, Nop x g ∨ (p < stt rows rows.length ∧ x = s.has p)
  fut : ∀ p, 2 ≤ p → p < 50 → ∀ x ∈ s.L.getD p [] :: s.V p, ∀ g', g < g' → Nop x g'
  fl1 : fl ≤ rows.length
  flu : ∀ p, 2 ≤ p → p < stt rows fl → s.V p = []
  vl : ∀ p, (s.V p).length ≤ k
  g2 : g < 4294967296

section
variable {s : DS} {g fl k : Nat} {rows : List (List Int)}
theorem Px.app (h : Px s g rows fl k) {ys : List Int} (hf : npc ys.length ≤ 50 - stt rows rows.length) : Px (jap s g (rows.length + 1) (stt rows rows.length) ys (npc ys.length)) g (rows ++ [ys]) fl (k + 1) := by
  have hp := npc_pos ys.length
  have h5 := h.a5
  have he : stt (rows ++ [ys]) (rows ++ [ys]).length = stt rows rows.length + npc ys.length := by rw [List.length_append]; exact stt_end rows ys
  have hr1 : rows.length + 1 ≤ 48 := by
    have := stt_mono (rows := rows) (r := 0) (q := rows.length) (by omega) (Nat.le_refl _)
    rw [stt_0] at this
    omega
  have hV : ∀ p, (jap s g (rows.length + 1) (stt rows rows.length) ys (npc ys.length)).V p = if stt rows rows.length ≤ p ∧ p < stt rows rows.length + npc ys.length then s.V p ++ [jsec (pcA g (rows.length + 1) ys (p - stt rows rows.length))] else s.V p := by
    intro p
    have : ∀ m, (jap s g (rows.length + 1) (stt rows rows.length) ys m).V p = if stt rows rows.length ≤ p ∧ p < stt rows rows.length + m then s.V p ++ [jsec (pcA g (rows.length + 1) ys (p - stt rows rows.length))] else s.V p := by
      intro m
      induction m with
      | zero => rw [if_neg (by omega)]; rfl
      | succ m ih =>
        rw [jap, wr_V (by rw [jap_c]; exact h.c0)]
        unfold vput
        by_cases e : p = stt rows rows.length + m
        · subst e
          rw [if_pos rfl, ih, if_neg (by omega), if_pos (by omega), Nat.add_sub_cancel_left]
        · rw [if_neg e, ih]
          by_cases e2 : stt rows rows.length ≤ p ∧ p < stt rows rows.length + m
          · rw [if_pos e2, if_pos (by omega)]
          · rw [if_neg e2, if_neg (by omega)]
    exact this _
  have hh := jap_has s g (rows.length + 1) (stt rows rows.length) ys h.c0 (npc ys.length)
  have h2s := stt_2 rows rows.length
  have hnew : ∀ q, q < npc ys.length → OkR (pcA g (rows.length + 1) ys q) := fun q hq => pcA_ok hq (by omega) h.g2 (by omega)
  refine ⟨by rw [jap_c]; exact h.c0, by rw [jap_L]; exact h.l6, fun i hi => ?_, cur_app h.c0 h.cu, by rw [he]; omega, fun p h2 hp5 x hx => ?_, fun p h2 hp5 x hx g' hg => ?_, by rw [List.length_append]; have := h.fl1; omega, fun p h2 hpf => ?_, fun p => ?_, h.g2⟩
  · rw [jap_L] at hi
    rw [hV, if_neg (by have := h.l6; omega)]
    exact h.vo i hi
  · rw [jap_L, hV] at hx
    rw [he, hh]
    by_cases e : stt rows rows.length ≤ p ∧ p < stt rows rows.length + npc ys.length
    · rw [if_pos e] at hx ⊢
      rw [← List.cons_append] at hx
      rcases List.mem_append.1 hx with hx | hx
      · rcases h.old p h2 hp5 x hx with c | c
        · exact .inl c
        · omega
      · exact .inr ⟨by omega, List.mem_singleton.1 hx⟩
    · rw [if_neg e] at hx ⊢
      rcases h.old p h2 hp5 x hx with c | c
      · exact .inl c
      · exact .inr ⟨by omega, c.2⟩
  · rw [jap_L, hV] at hx
    by_cases e : stt rows rows.length ≤ p ∧ p < stt rows rows.length + npc ys.length
    · rw [if_pos e, ← List.cons_append] at hx
      rcases List.mem_append.1 hx with hx | hx
      · exact h.fut p h2 hp5 x hx g' hg
      · rw [List.mem_singleton.1 hx]
        exact nop_gen (hnew _ (by omega)) (by show g ≠ g'; omega)
    · rw [if_neg e] at hx
      exact h.fut p h2 hp5 x hx g' hg
  · have hfl := h.fl1
    rw [stt_app ys hfl] at hpf
    have m := stt_mono (rows := rows) hfl (Nat.le_refl _)
    rw [hV, if_neg (by omega)]
    exact h.flu p h2 hpf
  · rw [hV]
    have := h.vl p
    split
    · rw [List.length_append]; simp; omega
    · omega
theorem Px.flush (h : Px s g rows fl k) : Px s.fl g rows rows.length (k + 1) := by
  have hL : s.fl.L.length = s.L.length := fl_L s
  have hhas : ∀ p, p < 60 → s.fl.has p = s.has p := fun p hp => fl_has h.c0 (by rw [h.l6]; exact hp)
  have hmem : ∀ p, p < 60 → ∀ x, x ∈ s.fl.L.getD p [] :: s.fl.V p → x = s.has p := fun p hp x hx => by
    rw [fl_V0 h.c0, List.mem_singleton] at hx
    rw [hx, ← hhas p hp]
    unfold DS.has
    rw [fl_V0 h.c0]
    rfl
  refine ⟨by rw [fl_c]; exact h.c0, by rw [hL]; exact h.l6, fun i _ => fl_V0 h.c0 i, fun r hr i hi => ?_, h.a5, fun p h2 hp x hx => ?_, fun p h2 hp x hx g' hg => ?_, Nat.le_refl _, fun p _ _ => fl_V0 h.c0 p, fun p => by rw [fl_V0 h.c0]; exact Nat.zero_le _, h.g2⟩
  · have m1 := stt_succ hr
    have m2 := stt_mono (rows := rows) (r := r + 1) (q := rows.length) (by omega) (Nat.le_refl _)
    have := h.a5
    rw [hhas _ (by omega)]
    exact h.cu r hr i hi
  · have e := hmem p (by omega) x hx
    rw [hhas p (by omega)]
    rcases h.old p h2 hp (s.has p) (has_mem s p) with c | c
    · exact .inl (e ▸ c)
    · exact .inr ⟨c.1, e⟩
  · rw [hmem p (by omega) x hx]
    exact h.fut p h2 hp _ (has_mem s p) g' hg
/-- The next generation begins. -/
theorem Px.next (h : Px s g rows fl k) (hg : g + 1 < 4294967296) : Px s (g + 1) [] 0 (k + 1) :=
  ⟨h.c0, h.l6, h.vo, (fun r hr => by simp at hr), by show 2 ≤ 50; decide, (fun p h2 hp x hx => .inl (h.fut p h2 hp x hx _ (by omega))), (fun p h2 hp x hx g' hg' => h.fut p h2 hp x hx g' (by omega)), Nat.le_refl _, (fun p h2 hp => by rw [stt_0] at hp; omega), (fun p => Nat.le_succ_of_le (h.vl p)), hg⟩
theorem Px.powerNext (h : Px s g rows fl k) (ps : List Int) (hg : g + 1 < 4294967296) : Px (s.pw ps) (g + 1) [] 0 (k + 1) := by
  have hV : ∀ i, (s.pw ps).V i = [] := pw_V s ps h.vo
  have hL : (s.pw ps).L.length = 60 := by rw [pw_len]; exact h.l6
  have hmem : ∀ p x, x ∈ (s.pw ps).L.getD p [] :: (s.pw ps).V p → x ∈ s.L.getD p [] :: s.V p := fun p x hx => by
    rw [hV, List.mem_singleton] at hx
    rw [hx]
    exact pw_memJ s ps p
  exact ⟨pw_c s ps, hL, (fun i _ => hV i), (fun r hr => by simp at hr), by show 2 ≤ 50; decide, (fun p h2 hp x hx => .inl (h.fut p h2 hp x (hmem p x hx) _ (by omega))), (fun p h2 hp x hx g' hg' => h.fut p h2 hp x (hmem p x hx) g' (by omega)), Nat.le_refl _, (fun p h2 hp => by rw [stt_0] at hp; omega), (fun p => by rw [hV]; exact Nat.zero_le _), hg⟩
/-- Behind a loss of power a first part is told, with all that was flushed. -/
theorem Px.power (h : Px s g rows fl k) (ps : List Int) : ∃ R, fl ≤ R ∧ R ≤ rows.length ∧ jopen (s.pw ps).has g = rows.take R := by
  have hV : ∀ i, (s.pw ps).V i = [] := pw_V s ps h.vo
  have hf : ∀ p, 2 ≤ p → p < 50 → Nop ((s.pw ps).has p) g ∨ (p < stt rows rows.length ∧ (s.pw ps).has p = s.has p) := fun p h2 hp => by
    have e : (s.pw ps).has p = (s.pw ps).L.getD p [] := has_of_nil (hV p)
    rw [e]
    exact h.old p h2 hp _ (pw_memJ s ps p)
  have hfl : ∀ p, 2 ≤ p → p < stt rows fl → (s.pw ps).has p = s.has p := fun p h2 hp => by
    have e : (s.pw ps).has p = (s.pw ps).L.getD p [] := has_of_nil (hV p)
    have m := pw_memJ s ps p
    rw [h.flu p h2 hp, List.mem_singleton] at m
    rw [e, m, has_of_nil (h.flu p h2 hp)]
  generalize (s.pw ps).has = f at hf hfl
  have h5 := h.a5
  have key : ∀ m, m ≤ rows.length → (∀ r, r < m → CurAt f g (r + 1) (stt rows r) (rows.getD r [])) ∨ ∃ R, fl ≤ R ∧ R < m ∧ jopen f g = rows.take R := by
    intro m
    induction m with
    | zero => intro _; exact .inl (fun r hr => by omega)
    | succ m ih =>
      intro hm
      rcases ih (by omega) with c | ⟨R, r1, r2, r3⟩
      · have m1 := stt_succ (rows := rows) (r := m) (by omega)
        have m2 := stt_mono (rows := rows) (r := m + 1) (q := rows.length) (by omega) (Nat.le_refl _)
        have m3 := stt_2 rows m
        have m4 := stt_mono (rows := rows) (r := 0) (q := m) (by omega) (by omega)
        rw [stt_0] at m4
        have hcm := h.cu m (by omega)
        -- the first bad sector of record m
        have sub : ∀ q, q ≤ npc (rows.getD m []).length → (∀ i, i < q → f (stt rows m + i) = jsec (pcA g (m + 1) (rows.getD m []) i)) ∨ ∃ i, i < q ∧ (∀ j, j < i → f (stt rows m + j) = jsec (pcA g (m + 1) (rows.getD m []) j)) ∧ Nop (f (stt rows m + i)) g := by
          intro q
          induction q with
          | zero => intro _; exact .inl (fun i hi => by omega)
          | succ q ihq =>
            intro hq
            rcases ihq (by omega) with c2 | ⟨i, i1, i2, i3⟩
            · rcases hf (stt rows m + q) (by omega) (by omega) with c3 | c3
              · exact .inr ⟨q, by omega, c2, c3⟩
              · refine .inl (fun i hi => ?_)
                by_cases e : i = q
                · subst e; rw [c3.2]; exact hcm i (by omega)
                · exact c2 i (by omega)
            · exact .inr ⟨i, by omega, i2, i3⟩
        rcases sub _ (Nat.le_refl _) with c2 | ⟨i, i1, i2, i3⟩
        · refine .inl (fun r hr => ?_)
          by_cases e : r = m
          · subst e; exact c2
          · exact c r (by omega)
        · refine .inr ⟨m, ?_, by omega, open_take (by omega) c (cur_bad m3 (by omega) h.g2 (by omega) i1 i2 i3) (by omega) h.g2⟩
          apply Classical.byContradiction
          intro hlt
          have m5 := stt_mono (rows := rows) (r := m + 1) (q := fl) (by omega) h.fl1
          have e1 := hfl (stt rows m + i) (by omega) (by omega)
          rw [e1, hcm i i1] at i3
          exact i3 _ _ _ (isP_of (pcA_ok i1 (by omega) h.g2 (by omega)) (pcA_may i1))
      · exact .inr ⟨R, r1, by omega, r3⟩
  rcases key rows.length (Nat.le_refl _) with c | ⟨R, r1, r2, r3⟩
  · refine ⟨rows.length, h.fl1, Nat.le_refl _, open_take (Nat.le_refl _) c (nop_bad fun hl => ?_) h5 h.g2⟩
    rcases hf (stt rows rows.length) (stt_2 _ _) hl with c3 | c3
    · exact c3
    · omega
  · exact ⟨R, r1, by omega, r3⟩
end
end Go.Proofs.Ytaacidgihhcpkaa
/-
  JournalPrefix's walk.
-/
namespace Go.Proofs.Ytaacidgihhcpkaa
open Go.RowKit Go.Maps Pl
set_option linter.unusedVariables false
set_option linter.unusedSimpArgs false
set_option maxRecDepth 100000

def wsP : DS := (wps (DS.new 60) 48).fl
theorem wsP_c : wsP.c = false := by unfold wsP; rw [fl_c, wps_c]; rfl
theorem wsP_L : wsP.L.length = 60 := by unfold wsP; rw [fl_L, wps_L]; simp [DS.new]
theorem wsP_V (i : Nat) : wsP.V i = [] := fl_V0 (by rw [wps_c]; rfl) i
theorem wsP_has {i : Nat} (h : i < 60) : wsP.has i = zz := by
  unfold wsP
  rw [fl_has (by rw [wps_c]; rfl) (by rw [wps_L]; simp [DS.new]; exact h), wps_has _ rfl]
  split
  · rfl
  · exact new_has h
theorem px_new : Px wsP 1 [] 0 0 := by
  have hm : ∀ p, p < 60 → ∀ x, x ∈ wsP.L.getD p [] :: wsP.V p → x = zz := fun p hp x hx => by
    rw [wsP_V, List.mem_singleton] at hx
    rw [hx, ← has_of_nil (wsP_V p), wsP_has hp]
  exact ⟨wsP_c, wsP_L, fun i _ => wsP_V i, (fun r hr => by simp at hr), (by decide), (fun p h2 hp x hx => .inl (by rw [hm p (by omega) x hx]; exact nop_z 1)), (fun p h2 hp x hx g' _ => by rw [hm p (by omega) x hx]; exact nop_z g'), Nat.le_refl _, (fun p _ _ => wsP_V p), (fun p => by rw [wsP_V]; exact Nat.le_refl _), by decide⟩

/-- What the loop holds. -/
structure Pf (S : Nat → Prop) (w wr : World) (d : Nat) (s : DS) (j g fl k : Nat) (rows : List (List Int)) (av : Value) : Prop where
  px : Px s g rows fl k
  jd : Jd S w wr d s j g rows.length (stt rows rows.length)
  al : OwL (fun q => q < w.heap.size) wr av rows
  aa : Ap S w wr j av
theorem Pf.len {S : Nat → Prop} {w wr : World} {d : Nat} {s : DS} {j g fl k : Nat} {rows : List (List Int)} {av : Value} (h : Pf S w wr d s j g fl k rows av) : rows.length + 2 ≤ stt rows rows.length := by
  have := stt_mono (rows := rows) (r := 0) (q := rows.length) (by omega) (Nat.le_refl _)
  rw [stt_0] at this
  omega
theorem Pf.below {S : Nat → Prop} {w wr wr' : World} {d : Nat} {s : DS} {j g fl k : Nat} {rows : List (List Int)} {av : Value} (h : Pf S w wr d s j g fl k rows av) (hb : Below wr.heap.size wr wr') : Pf S w wr' d s j g fl k rows av :=
  ⟨h.px, h.jd.below hb, h.al.below hb, h.aa.below hb⟩
theorem Px.mono {s : DS} {g fl k k' : Nat} {rows : List (List Int)} (h : Px s g rows fl k) (hk : k ≤ k') : Px s g rows fl k' := { h with vl := fun p => Nat.le_trans (h.vl p) hk }

set_option maxHeartbeats 4000000 in
theorem journalPrefix_walk (v : Value) (xs : List Jq) (w : World) (hr : RdJ w v xs) :
    Calls Try.prog 4 #[v] w fun e w' => e = .returned (.bool true) ∧ Below w.heap.size w w' := by
  obtain ⟨va, vc, rfl, hv1, hv2, _⟩ := id hr
  have HR : Hid (RdJ w (.slice va xs.length vc) xs) := hr
  have hvc : vc ≤ 9223372036854775807 := by unfold maxLen at hv2; omega
  obtain ⟨n, hn⟩ : ∃ n, Hid (xs.length = n) := ⟨_, rfl⟩
  rw [hn.out] at HR hv1 ⊢
  have HN := hideP (new_ok 60 w (by decide) (by decide))
  clear hr hv2
  go_enter Try.func4, Try.ntmps4
  go_wp2_with fail
  refine HN.out.mono ?_
  rintro e w1 ⟨d, S, rfl, D1, b1, n1⟩
  have HJ := hideP (newJ_any 1 w1 D1 (by simp [DS.new]))
  have HD1 := hideP D1
  have HB1 := hideP b1
  have HN1 := hideP n1
  clear HN D1 b1 n1
  unfold dp at HJ ⊢
  go_wp2_with fail
  refine HJ.out.mono ?_
  rintro e w2 (⟨_, rfl, jb2, b2, s2⟩ | ⟨h, _⟩)
  case inr => exact absurd h (by decide)
  have J2 : Hid (Jd S w w2 d (DS.new 60) w1.heap.size 1 0 2) := jd_new HD1.out HB1.out HN1.out (by simp [DS.new]) (by decide) (by decide) jb2 b2
  obtain ⟨j, hjj⟩ : ∃ j, Hid (w1.heap.size = j) := ⟨_, rfl⟩
  rw [hjj.out] at J2 ⊢
  have HWI := hideP (wipe_any w2 J2.out.dk J2.out.l5 (fun i => by rw [new_V]; decide))
  clear HJ jb2 b2 s2 HD1 HB1 HN1
  unfold dp at HWI
  go_wp2_with fail
  refine HWI.out.mono ?_
  rintro e w3 ⟨rfl, d3⟩
  obtain ⟨S3, J3⟩ := J2.out.dkTo (s' := wsP) d3 (by rw [wsP_L]; simp [DS.new])
  have J3 := hideP J3
  clear d3 HWI J2
  go_wp2_with fail
  go_loopw [5, 6, 7, 8, 9] (fun gv jv av fv iv wr => ∃ (k g fl j : Nat) (S : Nat → Prop) (s : DS) (rows : List (List Int)), k ≤ n ∧ k ≤ 1000 ∧ iv = .int .i64 (k : Int) ∧ gv = .int .i64 (g : Int) ∧ g ≤ k + 1 ∧ jv = .pointer (some ⟨j, 0, none⟩) ∧ fv = .int .i64 (fl : Int) ∧ Hid (Pf S w wr d s j g fl k rows av)) (fun _ _ _ _ iv _ => n - (intOf iv).toNat)
  case atStart => exact ⟨0, 1, 0, j, S3, wsP, [], Nat.zero_le _, by decide, rfl, rfl, by decide, rfl, rfl, ⟨px_new, J3.out, owL_nil _ _, fun q hq => by cases hq⟩⟩
  case round =>
    clear J3
    obtain ⟨k, g, fl, j, S, s, rows, hk, hk1, rfl, rfl, hgk, rfl, rfl, PF⟩ := hrel
    obtain ⟨aa, ac, rfl, hac1, hac2⟩ := PF.out.al.len
    have hac9 : ac ≤ 9223372036854775807 := by unfold maxLen at hac2; omega
    have hst := PF.out.len
    have hs50 := PF.out.px.a5
    have hfl := PF.out.px.fl1
    obtain ⟨rl, hrl⟩ : ∃ rl, Hid (rows.length = rl) := ⟨_, rfl⟩
    obtain ⟨a, haa⟩ : ∃ a, Hid (stt rows rl = a) := ⟨_, rfl⟩
    rw [hrl.out] at PF hst hs50 hfl hac1 ⊢
    rw [haa.out] at hst hs50
    have HJA : Hid (∀ {S' : Nat → Prop} {wr' : World} {s' : DS} {j' g' fl' k' : Nat} {av' : Value}, Pf S' w wr' d s' j' g' fl' k' rows av' → Jd S' w wr' d s' j' g' rl a) := fun h => by
      have := h.jd
      rw [hrl.out, haa.out] at this
      exact this
    by_cases hlt : k < n
    · have hkl : (k : Int) < (n : Int) := by omega
      by_cases hlt2 : k < 1000
      · have hkl2 : (k : Int) < 1000 := by omega
        obtain ⟨x, hx⟩ : ∃ x, xs[k]? = some x := ⟨_, List.getElem?_eq_getElem (by rw [hn.out]; exact hlt)⟩
        obtain ⟨lb, lo, rfl, XC, XO⟩ := HR.out.at_ PF.out.jd.be hx
        have HXO := hideP XO
        obtain ⟨kind, dv, data, xn, pv, ps⟩ := x
        have c0 := XC.c0
        have c1 := XC.c1
        have c2 := XC.c2
        have c3 := XC.c3
        dsimp only at c0 c1 c2 c3
        obtain ⟨da, dc, hde, hd1, hd2, _⟩ := id XO.rd
        obtain ⟨pa, pc, hpe, hp1, hp2, _⟩ := id XO.rp
        dsimp only at hde hpe hd1 hd2 hp1 hp2
        subst hde hpe
        have hdc9 : dc ≤ 9223372036854775807 := by unfold maxLen at hd2; omega
        have HRD : Hid (Rd .u8 w (.slice da data.length dc) data) := XO.rd
        have HBD : Hid (By data) := XO.by_
        have HRP : Hid (Rd .i64 w (.slice pa ps.length pc) ps) := XO.rp
        have HWK : Hid ((Lit.int .i64 kind).wf = true) := XO.wk
        obtain ⟨dl, hdl⟩ : ∃ dl, Hid (data.length = dl) := ⟨_, rfl⟩
        obtain ⟨pl, hpl⟩ : ∃ pl, Hid (ps.length = pl) := ⟨_, rfl⟩
        rw [hdl.out] at c1 HRD hd1
        rw [hpl.out] at c3 HRP hp1
        clear XC XO hx HXO hd2 hp2
        obtain ⟨q, hq⟩ : ∃ q, Hid (wr.heap.size = q) := ⟨_, rfl⟩
        obtain ⟨W1, hW1⟩ : ∃ W1, wr.alloc (.cells #[.int .i64 kind, .slice da dl dc, .int .i64 xn, .slice pa pl pc] 39) = W1 := ⟨_, rfl⟩
        have b1 : Below wr.heap.size wr W1 := by rw [← hW1]; exact (Below.refl _ _).alloc (Nat.le_refl _) _
        have Q1 : Hid (Bo W1 q 39 [.int .i64 kind, .slice da dl dc, .int .i64 xn, .slice pa pl pc]) := by rw [← hW1, ← hq.out]; exact bo_new wr _ _
        have PF1 := hideP (PF.out.below b1)
        have HW1 : Hid (wr.alloc (.cells #[.int .i64 kind, .slice da dl dc, .int .i64 xn, .slice pa pl pc] 39) = W1) := hW1
        have HSQ : Hid (∀ i, S i → i < q) := fun i hi => by rw [← hq.out]; exact PF.out.jd.dk.slt i hi
        have HJQ : Hid (j < q) := by show _ < _; rw [← hq.out]; exact Bo.lt PF.out.jd.jb
        have HAQ : Hid (∀ i, (Value.slice aa rl ac).ownBlock = some i → i < q) := fun i hi => by rw [← hq.out]; exact PF.out.al.lt i hi
        have HPK := hideP (pickJ_any kind 4 (by decide) (by decide) HWK.out W1)
        have hp4 : pk kind 4 < 4 := pk_lt kind (by decide)
        have q0 := Q1.out.cell (i := 0) rfl
        have q1 := Q1.out.cell (i := 1) rfl
        have q3 := Q1.out.cell (i := 3) rfl
        have hq2 : wr.heap.size = q := hq.out
        clear b1 PF
        obtain hc | hc | hc | hc : pk kind 4 = 0 ∨ pk kind 4 = 1 ∨ pk kind 4 = 2 ∨ pk kind 4 = 3 := by omega
        · have HP0 : Hid (Calls Try.prog 12 #[.int .i64 kind, .int .i64 4] W1 fun e w' => e = .returned (.int .i64 0) ∧ w' = W1) := by
            have := HPK.out
            rw [hc] at this
            exact this
          clear HPK hc hp4
          go_wp2_with fail
          refine HP0.out.mono ?_
          rintro e W1 ⟨rfl, rfl⟩
          clear hW1 HW1 HP0 c0 c1 c2 c3
          have JD := hideP (HJA.out PF1.out)
          have HA := hideP (appJ JD.out hst (.slice da dl dc) data (HRD.out.below JD.out.be) HBD.out (JD.out.arg HRD.out).2 (fun i => by have := PF1.out.px.vl i; omega))
          go_wp2_with fail
          refine HA.out.mono ?_
          clear HA
          rintro e w5 (⟨h5, rfl, S5, J5, t5, n5⟩ | ⟨h5, rfl, rfl⟩)
          · have A5 : Hid (Ap S5 w w5 j (.slice aa rl ac)) := PF1.out.aa.app t5.size n5
            have AL5 : Hid (OwL (fun q => q < w.heap.size) w5 (.slice aa rl ac) rows) := PF1.out.al.tch t5 PF1.out.aa.not (fun i hi _ e => by
              rcases e with e | e
              · have := JD.out.s0 i e; omega
              · have := JD.out.j0; omega)
            have JD5 := hideP J5
            have PX5 : Hid (Px (jap s g (rl + 1) a data (npc data.length)) g (rows ++ [data]) fl (k + 1)) := by
              have := PF1.out.px.app (ys := data) (by rw [hrl.out, haa.out]; exact h5)
              rw [hrl.out, haa.out] at this
              exact this
            have Q5 : Hid (Bo w5 q 39 [.int .i64 kind, .slice da dl dc, .int .i64 xn, .slice pa pl pc]) := Q1.out.tch t5 (fun e => by
              rcases e with e | e
              · have := HSQ.out q e; omega
              · have := HJQ.out; omega)
            have r1 := Q5.out.cell (i := 1) rfl
            have HUE : Hid (∀ i, (Value.slice da dl dc).ownBlock = some i → data ≠ [] → i < w.heap.size ∧ i < w5.heap.size ∧ (Value.slice aa rl ac).ownBlock ≠ some i) := fun i hi h0 => by
              have h1 := HRD.out.blk_lt h0 hi
              exact ⟨h1, Nat.lt_of_lt_of_le h1 J5.be.size, fun e => by have := (A5.out i e).1; omega⟩
            have R5 := hideP (HRD.out.below J5.be)
            have HRL2 : Hid (rows.length + 1 ≤ 2000000000000) := by show _ ≤ _; rw [hrl.out]; omega
            clear J5 t5 n5 JD Q1 q0 q1 q3
            go_wp2_with (at_builtin; refine wpList_pushL w5 rfl (.tmp 65) (.tmp 68) rfl (.slice aa rl ac) rows rfl AL5.out (.slice da dl dc) data R5.out HUE.out rfl HRL2.out ?_)
            intro av2 w7 AL7 g7
            have JD7 := hideP (JD5.out.grew g7 A5.out)
            have AA7 := hideP (Ap.grew JD5.out g7 A5.out AL7.lt)
            have PF7 : Hid (Pf S5 w w7 d (jap s g (rl + 1) a data (npc data.length)) j g fl (k + 1) (rows ++ [data]) av2) := by
              have e1 : (rows ++ [data]).length = rl + 1 := by rw [List.length_append, hrl.out]; rfl
              have e2 : stt (rows ++ [data]) (rows ++ [data]).length = a + npc data.length := by
                rw [List.length_append]
                show stt (rows ++ [data]) (rows.length + 1) = _
                rw [stt_end, hrl.out, haa.out]
              refine ⟨PX5.out, ?_, AL7, AA7.out⟩
              rw [e2, e1]
              exact JD7.out
            clear AL7 g7 AL5 A5 HUE R5 JD5 r1 h5
            go_wp2_with fail
            go_roundw
            case rel => exact ⟨k + 1, g, fl, j, S5, _, rows ++ [data], by omega, by omega, by go_num, rfl, by omega, rfl, rfl, PF7⟩
            case measure => simp [intOf]; omega
          · have PF7 : Hid (Pf S w w5 d s j g fl (k + 1) rows (.slice aa rl ac)) := ⟨PF1.out.px.mono (by omega), PF1.out.jd, PF1.out.al, PF1.out.aa⟩
            clear h5 JD
            go_wp2_with fail
            go_roundw
            case rel => exact ⟨k + 1, g, fl, j, S, s, rows, by omega, by omega, by go_num, rfl, by omega, rfl, rfl, PF7⟩
            case measure => simp [intOf]; omega
        · have HP1 : Hid (Calls Try.prog 12 #[.int .i64 kind, .int .i64 4] W1 fun e w' => e = .returned (.int .i64 1) ∧ w' = W1) := by
            have := HPK.out
            rw [hc] at this
            exact this
          clear HPK hc hp4
          go_wp2_with fail
          refine HP1.out.mono ?_
          rintro e W1 ⟨rfl, rfl⟩
          clear hW1 HW1 HP1 c0 c1 c2 c3
          have HFL := hideP (flush_any W1 PF1.out.jd.dk)
          unfold dp at HFL
          go_wp2_with fail
          refine HFL.out.mono ?_
          rintro e w5 ⟨rfl, d5⟩
          obtain ⟨S5, J5, t5, n5⟩ := PF1.out.jd.dkTo2 d5 (fl_L s)
          have PF5 : Hid (Pf S5 w w5 d s.fl j g rl (k + 1) rows (.slice aa rl ac)) := ⟨by have := PF1.out.px.flush; rw [hrl.out] at this; exact this, J5, PF1.out.al.tch t5 (fun i hi e => (PF1.out.aa i hi).2.1 e) (fun i hi _ e => by have := PF1.out.jd.s0 i e; omega), PF1.out.aa.app t5.size n5⟩
          clear J5 t5 n5 d5 HFL
          go_wp2_with fail
          go_roundw
          case rel => exact ⟨k + 1, g, rl, j, S5, _, rows, by omega, by omega, by go_num, rfl, by omega, rfl, rfl, PF5⟩
          case measure => simp [intOf]; omega
        · have HP2 : Hid (Calls Try.prog 12 #[.int .i64 kind, .int .i64 4] W1 fun e w' => e = .returned (.int .i64 2) ∧ w' = W1) := by
            have := HPK.out
            rw [hc] at this
            exact this
          clear HPK hc hp4
          go_wp2_with fail
          refine HP2.out.mono ?_
          rintro e W1 ⟨rfl, rfl⟩
          clear hW1 HW1 HP2 c0 c1 c2 c3
          have HPW := hideP (power_any (.slice pa pl pc) ps W1 PF1.out.jd.dk (HRP.out.below PF1.out.jd.be) (fun i hi h0 e => by have := HRP.out.blk_lt h0 hi; have := PF1.out.jd.s0 i e; omega) (fun i => by have := PF1.out.px.vl i; omega))
          have HPX := hideP (PF1.out.px.powerNext ps (by omega))
          obtain ⟨R, hR1, hR2, hR3⟩ := PF1.out.px.power ps
          have HR3 := hideP hR3
          rw [hrl.out] at hR2
          clear hR3
          unfold dp at HPW
          go_wp2_with fail
          refine HPW.out.mono ?_
          rintro e w5 ⟨rfl, d5⟩
          obtain ⟨S5, J5, t5, n5⟩ := PF1.out.jd.dkTo2 d5 (pw_len s ps)
          have JD5 := hideP J5
          have AL5 := hideP (PF1.out.al.tch t5 (fun i hi e => (PF1.out.aa i hi).2.1 e) (fun i hi _ e => by have := PF1.out.jd.s0 i e; omega))
          have HOP := hideP (open_any g w5 J5.dk J5.l5 J5.g1 J5.g2)
          rw [HR3.out] at HOP
          clear J5 t5 n5 d5 HPW Q1 q0 q1 q3
          unfold dp at HOP
          go_wp2_with fail
          refine HOP.out.mono ?_
          rintro e w6 ⟨lv, rfl, r6, b6⟩
          obtain ⟨la, lc, hle, hl1, hl2, _⟩ := id r6
          subst hle
          have HTL : Hid ((rows.take R).length = R) := by show _ = _; rw [List.length_take, hrl.out]; omega
          have hlc : lc ≤ 9223372036854775807 := by unfold maxLen at hl2; omega
          have JD6 := hideP (JD5.out.below b6)
          have AL6 := hideP (AL5.out.below b6)
          have HSA := hideP (sameL_any (.slice la (rows.take R).length lc) (.slice aa R ac) (rows.take R) w6 r6 (AL6.out.rd.take rfl (by rw [hrl.out]; omega)))
          rw [HTL.out] at HSA hl1 ⊢
          have hsr := slice_rows aa rl ac R (by omega) hac1
          have hRf : decide (R < fl) = false := by rw [decide_eq_false_iff_not]; omega
          have hRf2 : ¬ (R : Int) < (fl : Int) := by omega
          have hRr : decide (rl < R) = false := by rw [decide_eq_false_iff_not]; omega
          have hRr2 : ¬ (rl : Int) < (R : Int) := by omega
          clear r6 b6 hl2 HOP
          go_wp2_with fail
          refine HSA.out.mono ?_
          rintro e w7 ⟨rfl, b7⟩
          have JD7 := hideP (JD6.out.below b7)
          have hg1 : (g : Int) + 1 = ((g + 1 : Nat) : Int) := by omega
          obtain ⟨g1, hgg⟩ : ∃ g1, g + 1 = g1 := ⟨_, rfl⟩
          rw [hgg] at hg1
          have hg9 : g1 ≤ 1002 := by omega
          have hg8 : 1 ≤ g1 := by omega
          have HGG : Hid (g + 1 = g1) := hgg
          clear hgg
          have HNJ := hideP (newJ_any (g1 : Int) w7 JD7.out.dk JD7.out.l5)
          unfold dp at HNJ
          clear b7 HSA hsr hRf hRf2 hRr hRr2
          go_wp2_with fail
          refine HNJ.out.mono ?_
          rintro e w8 (⟨_, rfl, jb8, b8, s8⟩ | ⟨h, _⟩)
          case inr => rw [okG_iff.2 ⟨by omega, by omega⟩] at h; cases h
          rw [Int.toNat_natCast] at jb8
          have J8 := JD7.out.again hg8 (by omega) jb8 b8
          obtain ⟨j8, hj8⟩ : ∃ j8, Hid (w7.heap.size = j8) := ⟨_, rfl⟩
          rw [hj8.out] at J8 ⊢
          have PF8 : Hid (Pf S5 w w8 d (s.pw ps) j8 g1 0 (k + 1) [] (.slice none 0 0)) := ⟨by have := HPX.out; rw [HGG.out] at this; exact this, J8, owL_nil _ _, fun i hi => by cases hi⟩
          clear J8 jb8 b8 s8 HNJ
          go_wp2_with fail
          go_roundw
          case rel => exact ⟨k + 1, g1, 0, j8, S5, _, [], by omega, by omega, by go_num, rfl, by have := HGG.out; omega, rfl, rfl, PF8⟩
          case measure => simp [intOf]; omega
        · have HP3 : Hid (Calls Try.prog 12 #[.int .i64 kind, .int .i64 4] W1 fun e w' => e = .returned (.int .i64 3) ∧ w' = W1) := by
            have := HPK.out
            rw [hc] at this
            exact this
          clear HPK hc hp4
          go_wp2_with fail
          refine HP3.out.mono ?_
          rintro e W1 ⟨rfl, rfl⟩
          clear hW1 HW1 HP3 c0 c1 c2 c3
          have JD := hideP PF1.out.jd
          have hg1 : (g : Int) + 1 = ((g + 1 : Nat) : Int) := by omega
          obtain ⟨g1, hgg⟩ : ∃ g1, g + 1 = g1 := ⟨_, rfl⟩
          rw [hgg] at hg1
          have hg9 : g1 ≤ 1002 := by omega
          have hg8 : 1 ≤ g1 := by omega
          have HGG : Hid (g + 1 = g1) := hgg
          clear hgg
          have HNJ := hideP (newJ_any (g1 : Int) W1 JD.out.dk JD.out.l5)
          unfold dp at HNJ
          go_wp2_with fail
          refine HNJ.out.mono ?_
          rintro e w6 (⟨_, rfl, jb6, b6, s6⟩ | ⟨h, _⟩)
          case inr => rw [okG_iff.2 ⟨by omega, by omega⟩] at h; cases h
          rw [Int.toNat_natCast] at jb6
          have J6 := JD.out.again hg8 (by omega) jb6 b6
          obtain ⟨j6, hj6⟩ : ∃ j6, Hid (W1.heap.size = j6) := ⟨_, rfl⟩
          rw [hj6.out] at J6 ⊢
          have PF6 : Hid (Pf S w w6 d s j6 g1 0 (k + 1) [] (.slice none 0 0)) := ⟨by have := PF1.out.px.next (by omega); rw [HGG.out] at this; exact this, J6, owL_nil _ _, fun i hi => by cases hi⟩
          clear J6 jb6 b6 s6 HNJ
          go_wp2_with fail
          go_roundw
          case rel => exact ⟨k + 1, g1, 0, j6, S, s, [], by omega, by omega, by go_num, rfl, by have := HGG.out; omega, rfl, rfl, PF6⟩
          case measure => simp [intOf]; omega
      · have hkl2 : ¬ (k : Int) < 1000 := by omega
        have HLV := hideP (lives_anyJ wr)
        have HBE := hideP PF.out.jd.be
        go_wp2_with fail
        refine HLV.out.mono ?_
        rintro e w3 ⟨rfl, b3⟩
        have B3 : Hid (Below w.heap.size w w3) := HBE.out.trans (b3.mono HBE.out.size)
        clear b3
        go_wp2_with fail
        go_ret
        exact ⟨rfl, B3.out⟩
    · have hkl : ¬ (k : Int) < (n : Int) := by omega
      have HLV := hideP (lives_anyJ wr)
      have HBE := hideP PF.out.jd.be
      go_wp2_with fail
      refine HLV.out.mono ?_
      rintro e w3 ⟨rfl, b3⟩
      have B3 : Hid (Below w.heap.size w w3) := HBE.out.trans (b3.mono HBE.out.size)
      clear b3
      go_wp2_with fail
      go_ret
      exact ⟨rfl, B3.out⟩
end Go.Proofs.Ytaacidgihhcpkaa
