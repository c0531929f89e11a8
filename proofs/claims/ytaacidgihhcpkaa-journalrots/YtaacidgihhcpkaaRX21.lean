import Derived.Test.YtaacidgihhcpkaaRX18
import Derived.Test.YtaacidgihhcpkaaRX12
import Derived.Test.YtaacidgihhcpkaaRX20
import Derived.Test.YtaacidgihhcpkaaRX14
import Derived.Test.YtaacidgihhcpkaaRX19
import Derived.Test.YtaacidgihhcpkaaRX03
/-
  The document's examples of layer 11 hold.
-/
namespace Go.Proofs.Ytaacidgihhcpkaa
open Go.RowKit Go.Maps Pl
set_option linter.unusedVariables false
set_option linter.unusedSimpArgs false
set_option maxRecDepth 100000

theorem zr_by (n : Nat) : By (zr n) := by_of_memB fun x hx => by unfold zr at hx; rw [List.mem_replicate] at hx; omega
theorem nop_z (g : Nat) : Nop zz g := nop_zz g
def lv1 : DS := jap (DS.new 128) 5 1 2 (zr 300) 2
def lv2 : DS := jap lv1 5 2 4 [] 1
theorem lv_c1 : lv1.c = false := by unfold lv1; rw [jap_c]; rfl
theorem lv_has (j : Nat) (h : j < 128) : lv2.has j = if j = 4 then jsec (pcA 5 2 [] 0) else if 2 ≤ j ∧ j < 4 then jsec (pcA 5 1 (zr 300) (j - 2)) else zz := by
  unfold lv2
  rw [jap_has _ _ _ _ _ lv_c1]
  by_cases e : j = 4
  · subst e; rfl
  · rw [if_neg (by omega), if_neg e]
    unfold lv1
    rw [jap_has _ _ _ _ _ rfl, new_has h]
theorem npc_300 : npc (zr 300).length = 2 := by rw [zr_len]; rfl
theorem npc_0 : npc ([] : List Int).length = 1 := rfl
theorem lv_open5 : jopen lv2.has 5 = [zr 300, []] := by
  have hs : stt [zr 300, []] 1 = 4 := by simp [stt, npc_300]
  have h2 : stt [zr 300, []] 2 = 5 := by rw [stt_succ (by simp), hs]; rfl
  have := open_take (f := lv2.has) (g := 5) (rows := [zr 300, []]) (R := 2) (by simp) (fun r hr => by
    match r, hr with
    | 0, _ =>
      intro i hi
      have hi2 : i < 2 := by simpa [npc_300] using hi
      show lv2.has (2 + i) = jsec (pcA 5 1 (zr 300) i)
      rw [lv_has _ (by omega), if_neg (by omega), if_pos (by omega), Nat.add_sub_cancel_left]
    | 1, _ =>
      intro i hi
      have hi2 : i < 1 := by simpa [npc] using hi
      have hi0 : i = 0 := by omega
      subst hi0
      rw [hs]
      show lv2.has 4 = _
      rw [lv_has _ (by omega), if_pos rfl]
      rfl) (nop_bad fun _ => by rw [h2, lv_has _ (by omega), if_neg (by omega), if_neg (by omega)]; exact nop_z 5) (by rw [h2]; decide) (by decide)
  rw [this]
  rfl
theorem lv_open6 : jopen lv2.has 6 = [] := by
  have := open_take (f := lv2.has) (g := 6) (rows := []) (R := 0) (by simp) (fun r hr => by omega) (nop_bad fun _ => by
    rw [stt_0, lv_has _ (by omega), if_neg (by omega), if_pos (by omega)]
    exact nop_gen (pcA_ok (by rw [npc_300]; decide) (by rw [npc_300]; decide) (by decide) (by decide)) (by decide)) (by decide) (by decide)
  rw [this]
  rfl

set_option maxHeartbeats 1000000 in
theorem lives_anyJ (w : World) : Calls Try.prog 29 #[] w fun e w' => e = .returned (.bool true) ∧ Below w.heap.size w w' := by
  obtain ⟨j0, hj, hy0, hy1, hy2⟩ := info_parts info_u8J
  have HN := hideP (new_ok 128 w (by decide) (by decide))
  go_enter Try.func29, Try.ntmps29
  go_wp2_with fail
  refine HN.out.mono ?_
  rintro e w1 ⟨d, S, rfl, D1, b1, n1⟩
  have HJ := hideP (newJ_any 5 w1 D1 (by simp [DS.new]))
  have HD1 := hideP D1
  have HB1 := hideP b1
  have HN1 := hideP n1
  clear HN D1 b1 n1
  unfold dp at HJ ⊢
  go_wp2_with fail
  refine HJ.out.mono ?_
  rintro e w2 (⟨_, rfl, jb2, b2, s2⟩ | ⟨h, _⟩)
  case inr => exact absurd h (by decide)
  have J2 : Hid (Jd S w w2 d (DS.new 128) w1.heap.size 5 0 2) := jd_new HD1.out HB1.out HN1.out (by simp [DS.new]) (by decide) (by decide) jb2 b2
  obtain ⟨j, hjj⟩ : ∃ j, Hid (w1.heap.size = j) := ⟨_, rfl⟩
  rw [hjj.out] at J2 ⊢
  clear HJ jb2 b2 s2 HD1 HB1 HN1
  go_wp2_with (at_make; refine wpList_make_full _ rfl (.const (.int .i64 300)) (.const (.int .i64 300)) 36 rfl 0 5 j0 _ 1 Try.underlying36 hj hy0 hy1 .i64 .i64 _ _ 300 rfl rfl rfl rfl (by rw [hy2]; decide) (by unfold maxLen; decide) (Nat.zero_le _) ?_)
  intro w3 ho3 hg3
  have b3 : Below w2.heap.size w2 w3 := (Below.refl _ _).grown hg3 (Nat.le_refl _) (fun k e => by cases e)
  obtain ⟨f, hf⟩ : ∃ h, Hid (w2.heap.size = h) := ⟨_, rfl⟩
  have M3 : Hid (w3.heap[f]? = some (.cells (bcs (zr 300)).toArray 5 (0, 0))) := by
    refine made_blkJ ?_
    have h3 := ho3
    rw [toList_madeCells_one, hf.out] at h3
    exact h3
  have W3 : Hid (Wb w3 (.slice (some ⟨f, 0, none⟩) 300 300) (zr 300)) := ⟨f, 300, _, _, by rw [zr_len], by rw [zr_len]; exact Nat.le_refl _, by unfold maxLen; omega, M3.out, by rw [List.toList_toArray, List.take_of_length_le (by rw [bcs_len]; exact Nat.le_refl _)]⟩
  have J3 := hideP (J2.out.below b3)
  have HA := hideP (appJ J3.out (by decide) (.slice (some ⟨f, 0, none⟩) 300 300) (zr 300) W3.out.rd (zr_by 300) (fun k hk _ e => by cases hk; have := J2.out.dk.slt f e; have := hf.out; omega) (fun i => by rw [new_V]; decide))
  rw [hf.out]
  clear ho3 hg3 b3 M3 J2 hj hy0 hy1 hy2
  go_wp2_with fail
  refine HA.out.mono ?_
  rintro e w4 (⟨_, rfl, S4, J4, _⟩ | ⟨h, _⟩)
  case inr => exact absurd (by rw [npc_300]; decide) h
  rw [npc_300] at J4
  have HJ4 : Hid (Jd S4 w w4 d lv1 j 5 1 4) := J4
  have HRM := hideP (room_any j d 5 1 4 w4 HJ4.out.jb (by decide))
  have HA2 := hideP (appJ HJ4.out (by decide) (.slice none 0 0) [] ⟨none, 0, rfl, Nat.le_refl _, by unfold maxLen; omega, fun _ => rfl, .inl rfl⟩ (by_of_memB (by simp)) (fun k hk => by cases hk) (fun i => by have := jap_V (DS.new 128) 5 1 2 (zr 300) 2 i; rw [new_V] at this; simp at this; show ((jap (DS.new 128) 5 1 2 (zr 300) 2).V i).length < _; omega))
  clear HA J4 W3 J3
  go_wp2_with fail
  refine HRM.out.mono ?_
  rintro e w5 ⟨rfl, rfl⟩
  clear HRM
  go_wp2_with fail
  refine HA2.out.mono ?_
  rintro e w6 (⟨_, rfl, S6, J6, _⟩ | ⟨h, _⟩)
  case inr => exact absurd (by decide) h
  have HJ6 : Hid (Jd S6 w w6 d lv2 j 5 2 5) := J6
  have HO := hideP (open_any 5 w6 HJ6.out.dk HJ6.out.l5 (by decide) (by decide))
  rw [lv_open5] at HO
  clear HA2 J6
  unfold dp at HO
  go_wp2_with fail
  refine HO.out.mono ?_
  rintro e w7 ⟨lv, rfl, r7, b7⟩
  obtain ⟨la, lc, rfl, l1, l2, _⟩ := id r7
  obtain ⟨lb, lo, u, rfl, cu, ru⟩ := r7.at_ (Below.refl _ _) (k := 0) (by simp)
  obtain ⟨ua, uc, rfl, u1, u2, _⟩ := id ru
  have J7 := hideP (HJ6.out.below b7)
  have HO6 := hideP (open_any 6 w7 J7.out.dk J7.out.l5 (by decide) (by decide))
  rw [lv_open6] at HO6
  have HC : Hid (w7.cell? ⟨lb, lo, none⟩ = some (.slice ua 300 uc)) := by
    have e : ([zr 300, []] : List (List Int)).getD 0 [] = zr 300 := rfl
    rw [Nat.add_zero, e, zr_len] at cu
    exact cu
  have hlc : lc ≤ 9223372036854775807 := by unfold maxLen at l2; omega
  have huc : uc ≤ 9223372036854775807 := by unfold maxLen at u2; omega
  have hl1 : 2 ≤ lc := l1
  have hu1 : 300 ≤ uc := by
    have e : (([zr 300, []] : List (List Int)).getD 0 []).length = 300 := zr_len 300
    rw [e] at u1
    exact u1
  have HL2 : Hid (([zr 300, []] : List (List Int)).length = 2) := rfl
  rw [HL2.out]
  clear HO r7 b7 cu ru l1 l2 u1 u2 HL2
  unfold dp at HO6
  go_wp2_with fail
  refine HO6.out.mono ?_
  rintro e w8 ⟨mv, rfl, r8, b8⟩
  obtain ⟨ma, mc, rfl, m1, m2, _⟩ := id r8
  have J8 := hideP (J7.out.below b8)
  have hmc : mc ≤ 9223372036854775807 := by unfold maxLen at m2; omega
  have HML : Hid (([] : List (List Int)).length = 0) := rfl
  rw [HML.out]
  have c8 : w8.cell? ⟨lb, lo, none⟩ = some (.slice ua 300 uc) := by rw [(Tch.of_below (S := fun _ => False) b8).cell (p := ⟨lb, lo, none⟩) (World.block_lt_of_cell? w7 ⟨lb, lo, none⟩ HC.out) (fun e => e)]; exact HC.out
  have HMN := hideP (many_any j d 5 2 5 w8 J8.out.jb)
  clear HO6 r8 b8 m1 m2 HC HML
  go_wp2_with fail
  refine HMN.out.mono ?_
  rintro e w9 ⟨rfl, rfl⟩
  go_wp2_with fail
  go_ret
  exact ⟨rfl, J8.out.be⟩
end Go.Proofs.Ytaacidgihhcpkaa
/-
  Flushes and rotten bits, plainly: what sectors tell then.
-/
namespace Go.Proofs.Ytaacidgihhcpkaa
open Go.RowKit Pl
set_option linter.unusedVariables false

theorem fl_can {s : DS} (hc : s.c = false) : s.fl = { s.tick with L := (List.range s.L.length).map s.has, V := fun _ => [] } := by
  unfold DS.fl
  rw [if_pos (by simp [DS.can, hc])]
theorem fl_c {s : DS} : s.fl.c = s.c := by
  unfold DS.fl DS.tick
  split <;> rfl
theorem fl_V0 {s : DS} (hc : s.c = false) (i : Nat) : s.fl.V i = [] := by rw [fl_can hc]
theorem fl_has {s : DS} (hc : s.c = false) {i : Nat} (hi : i < s.L.length) : s.fl.has i = s.has i := by
  unfold DS.has
  rw [fl_V0 hc, fl_can hc]
  show ((List.range s.L.length).map s.has).getD i [] = s.has i
  rw [List.getD_eq_getElem?_getD, List.getElem?_map, List.getElem?_range hi]
  rfl
theorem rot_L {s : DS} (b : Nat) : (s.rot b).L.length = s.L.length := by simp [DS.rot]
theorem rot_has {s : DS} {p b : Nat} (hp : p < s.L.length) (hb : b < 2048) (hV : s.V p = []) (i : Nat) : (s.rot (2048 * p + b)).has i = if i = p then trn b (s.has p) else s.has i := by
  have e1 : (2048 * p + b) / 2048 = p := by omega
  have e2 : (2048 * p + b) % 2048 = b := by omega
  unfold DS.has DS.rot
  rw [e1, e2]
  show (vput s.V p ((s.V p).map (trn b)) i).getLastD ((s.L.set p (trn b (s.L.getD p []))).getD i []) = _
  unfold vput
  by_cases h : i = p
  · subst h
    rw [if_pos rfl, if_pos rfl, hV]
    show (s.L.set i (trn b (s.L.getD i []))).getD i [] = trn b (s.L.getD i [])
    rw [List.getD_eq_getElem?_getD, List.getElem?_set_self hp]
    rfl
  · rw [if_neg h, if_neg h, List.getD_eq_getElem?_getD, List.getElem?_set_ne (fun e => h e.symm), ← List.getD_eq_getElem?_getD]

theorem dd_oneJ {p q : Nat} (hp : p < 2048) : dd p 1 2048 32 q = decide (q = p) := by
  unfold dd
  by_cases e : q = p
  · subst e
    simp
    omega
  · rw [decide_eq_false e]
    by_cases h : p ≤ q ∧ q < p + 32 ∧ q < 2048
    · rw [decide_eq_true h, Bool.true_and]
      have h1 : (2 ^ 0 : Nat).testBit (q - p) = false := Nat.testBit_two_pow_of_ne (by omega)
      exact h1
    · rw [decide_eq_false h, Bool.false_and]
/-- A rotten bit is told. -/
theorem nop_trn {xs : List Int} (hl : xs.length = 256) (hb : By xs) (hs : xs = smd xs) {p : Nat} (hp : p < 2048) (g : Nat) : Nop (trn p xs) g := by
  obtain ⟨tl, tb⟩ := trn_ok hp hl hb
  have := (sec_told (A := p) (mask := 1) hl tl hb tb hs (by omega) (fun j i hj hi => by
    rw [dd_oneJ hp]
    unfold bN trn
    by_cases e : j = p / 8
    · subst e
      rw [List.getD_eq_getElem?_getD, List.getElem?_set_self (by rw [hl]; omega)]
      show (Int.toNat ((xs.getD (p / 8) 0).toNat ^^^ 2 ^ (p % 8) : Nat)).testBit i = _
      rw [Int.toNat_natCast, Nat.testBit_xor, Nat.testBit_two_pow]
      congr 1
      by_cases e2 : p % 8 = i
      · rw [decide_eq_true e2, decide_eq_true (by omega)]
      · rw [decide_eq_false e2, decide_eq_false (by omega)]
    · rw [decide_eq_false (by omega), Bool.xor_false, List.getD_eq_getElem?_getD, List.getElem?_set_ne (fun h => e h.symm), ← List.getD_eq_getElem?_getD])).1 ⟨p, by rw [dd_oneJ hp]; simp⟩
  exact fun i m n h => this h.smd

/-- Which record has a sector. -/
def OwI (rows : List (List Int)) (ow : List Int) : Prop := ow.length + 2 = stt rows rows.length ∧ ∀ i, i < ow.length → ∃ r : Nat, r < rows.length ∧ ow.getD i 0 = (r : Int) ∧ stt rows r ≤ 2 + i ∧ 2 + i < stt rows (r + 1)
theorem owI_nil : OwI [] [] := ⟨rfl, fun i hi => by simp at hi⟩
theorem OwI.app {rows : List (List Int)} {ow : List Int} (h : OwI rows ow) (ys : List Int) : OwI (rows ++ [ys]) (ow ++ List.replicate (npc ys.length) (rows.length : Int)) := by
  refine ⟨by rw [List.length_append, List.length_replicate, List.length_append]; show _ = stt (rows ++ [ys]) (rows.length + 1); rw [stt_end, ← h.1]; omega, fun i hi => ?_⟩
  by_cases e : i < ow.length
  · obtain ⟨r, h1, h2, h3, h4⟩ := h.2 i e
    refine ⟨r, by simp; omega, ?_, by rw [stt_app ys (by omega)]; exact h3, by rw [stt_app ys (by omega)]; exact h4⟩
    rw [List.getD_eq_getElem?_getD, List.getElem?_append_left e, ← List.getD_eq_getElem?_getD]
    exact h2
  · rw [List.length_append, List.length_replicate] at hi
    have := h.1
    refine ⟨rows.length, by simp, ?_, by rw [stt_app ys (Nat.le_refl _)]; omega, by rw [stt_end]; omega⟩
    rw [List.getD_eq_getElem?_getD, List.getElem?_append_right (by omega), List.getElem?_replicate, if_pos (by omega)]
    rfl

/-- Behind a rotten bit just the records ahead of it are told. -/
theorem rot_open {s : DS} {g : Nat} {rows : List (List Int)} (hby : ∀ y ∈ rows, By y) (hcur : ∀ r, r < rows.length → CurAt s.has g (r + 1) (stt rows r) (rows.getD r [])) (hL : 50 ≤ s.L.length) (hl : stt rows rows.length ≤ 50) (hg : g < 4294967296) {p b r : Nat} (hb : b < 2048) (hV : s.V p = []) (hr : r < rows.length) (h1 : stt rows r ≤ p) (h2 : p < stt rows (r + 1)) :
    jopen (s.rot (2048 * p + b)).has g = rows.take r := by
  have m1 := stt_mono (rows := rows) (r := r + 1) (q := rows.length) (by omega) (Nat.le_refl _)
  have m0 := stt_succ hr
  have m2 := stt_2 rows r
  have m3 := stt_mono (rows := rows) (r := 0) (q := r) (by omega) (by omega)
  rw [stt_0] at m3
  have hh := rot_has (s := s) (p := p) (b := b) (by omega) hb hV
  have hne : ∀ q, q ≠ p → (s.rot (2048 * p + b)).has q = s.has q := fun q hq => by rw [hh, if_neg hq]
  have hyb : By (rows.getD r []) := by
    rw [List.getD_eq_getElem?_getD, List.getElem?_eq_getElem hr]
    exact hby _ (List.getElem_mem hr)
  refine open_take (by omega) (fun q hq i hi => ?_) ?_ (by omega) hg
  · have m4 := stt_mono (rows := rows) (r := q + 1) (q := r) (by omega) (by omega)
    have m5 := stt_succ (rows := rows) (r := q) (by omega)
    rw [hne _ (by omega)]
    exact hcur q (by omega) i hi
  · obtain ⟨k, hk⟩ : ∃ k, p = stt rows r + k := ⟨p - stt rows r, by omega⟩
    refine cur_bad (ys := rows.getD r []) (q := k) m2 (by omega) hg (by omega) (by omega) (fun i hi => ?_) ?_
    · rw [hne _ (by omega)]
      exact hcur r hr i (by omega)
    · rw [← hk, hh, if_pos rfl, hk, hcur r hr k (by omega)]
      have ok := pcA_ok (g := g) (n := r + 1) (ys := rows.getD r []) (i := k) (by omega) (by omega) hg (by omega)
      exact nop_trn (jsec_len ok.len) (jsec_by (chk_by hyb k)) (jsec_smd ok.len) hb g
theorem rows_open_all {s : DS} {g : Nat} {rows : List (List Int)} (hcur : ∀ r, r < rows.length → CurAt s.has g (r + 1) (stt rows r) (rows.getD r [])) (hl : stt rows rows.length ≤ 50) (hg : g < 4294967296) (he : stt rows rows.length < 50 → Nop (s.has (stt rows rows.length)) g) : jopen s.has g = rows := by
  have := open_take (f := s.has) (R := rows.length) (Nat.le_refl _) hcur (nop_bad he) hl hg
  rw [List.take_length] at this
  exact this
end Go.Proofs.Ytaacidgihhcpkaa
/-
  JournalRots's walk.
-/
namespace Go.Proofs.Ytaacidgihhcpkaa
open Go.RowKit Go.Maps Pl
set_option linter.unusedVariables false
set_option linter.unusedSimpArgs false
set_option maxRecDepth 100000

theorem sizeL (w : World) : (sizeOf (Try.prog.elem 46)).run Try.prog w = .ok 1 w := by
  have h : (Try.prog.info? (Try.prog.elem 46)).map (·.size) = some 1 := by kernel_rfl
  obtain ⟨i, hi, hs⟩ := Option.map_eq_some_iff.1 h
  simp [sizeOf, typeInfo, hi, hs]
theorem underL : Try.prog.underlying 46 = some (.slice (Try.prog.elem 46)) := by
  have : Try.prog.elem 46 = 36 := by kernel_rfl
  rw [this]
  exact Try.underlying46
/-- 'v[:m]' of rows. -/
theorem slice_rows (a : Option Addr) (n cap m : Nat) (hm : m ≤ n) (hn : n ≤ cap) (w : World) : (Instr.sliceAt 46 (.slice a n cap) none (some (.int .i64 (m : Int))) none).run Try.prog w = .ok (.slice a m cap) w := by
  rw [run_sliceAt_slice _ _ _ _ _ _ underL, run_slice_h _ _ _ _ _ underL _ _ (by omega) (by omega), sizeL]
  simp [Result.andThen, sliced]
  intro _
  cases a <;> simp [Addr.add]
theorem elemI : Elem Try.prog 37 3 .i64 8 := ⟨Try.underlying37, info_parts (z := .int .i64 0) (size := 1) (bytes := 8) (by kernel_rfl)⟩

/-- What the loop holds. -/
structure Ro (S : Nat → Prop) (w wr : World) (d : Nat) (s : DS) (j g : Nat) (rows : List (List Int)) (av : Value) : Prop where
  jd : Jd S w wr d s j g rows.length (stt rows rows.length)
  al : OwL (fun k => k < w.heap.size) wr av rows
  aa : Ap S w wr j av
  cu : ∀ r, r < rows.length → CurAt s.has g (r + 1) (stt rows r) (rows.getD r [])
  vi : VI s (stt rows rows.length)
  c0 : s.c = false
  l6 : s.L.length = 60
  by_ : ∀ y ∈ rows, By y
theorem Ro.len {S : Nat → Prop} {w wr : World} {d : Nat} {s : DS} {j g : Nat} {rows : List (List Int)} {av : Value} (h : Ro S w wr d s j g rows av) : rows.length + 2 ≤ stt rows rows.length := by
  have := stt_mono (rows := rows) (r := 0) (q := rows.length) (by omega) (Nat.le_refl _)
  rw [stt_0] at this
  omega

set_option maxHeartbeats 2000000 in
theorem journalRots_walk (v : Value) (rows : List (List Int)) (which bit : Int) (w : World) (hr : RdL w v rows) (hb : ∀ y ∈ rows, By y) (hw1 : (Lit.int .i64 which).wf = true) (hw2 : (Lit.int .i64 bit).wf = true) :
    Calls Try.prog 7 #[v, .int .i64 which, .int .i64 bit] w fun e w' => e = .returned (.bool true) ∧ Below w.heap.size w w' := by
  obtain ⟨va, vc, rfl, hv1, hv2, _⟩ := id hr
  have HR : Hid (RdL w (.slice va rows.length vc) rows) := hr
  have HB := hideP hb
  have HW1 := hideP hw1
  have HW2 := hideP hw2
  obtain ⟨n, hn⟩ : ∃ n, Hid (rows.length = n) := ⟨_, rfl⟩
  rw [hn.out] at HR hv1 ⊢
  have hvc : vc ≤ 9223372036854775807 := by unfold maxLen at hv2; omega
  have HN := hideP (new_ok 60 w (by decide) (by decide))
  clear hr hb hv2 hw1 hw2
  go_enter Try.func7, Try.ntmps7
  go_wp2_with fail
  refine HN.out.mono ?_
  rintro e w1 ⟨d, S, rfl, D1, b1, n1⟩
  have HJ := hideP (newJ_any 3 w1 D1 (by simp [DS.new]))
  have HD1 := hideP D1
  have HB1 := hideP b1
  have HN1 := hideP n1
  clear HN D1 b1 n1
  unfold dp at HJ ⊢
  go_wp2_with fail
  refine HJ.out.mono ?_
  rintro e w2 (⟨_, rfl, jb2, b2, s2⟩ | ⟨h, _⟩)
  case inr => exact absurd h (by decide)
  have J2 : Hid (Jd S w w2 d (DS.new 60) w1.heap.size 3 0 2) := jd_new HD1.out HB1.out HN1.out (by simp [DS.new]) (by decide) (by decide) jb2 b2
  obtain ⟨j, hjj⟩ : ∃ j, Hid (w1.heap.size = j) := ⟨_, rfl⟩
  rw [hjj.out] at J2 ⊢
  clear HJ jb2 b2 s2 HD1 HB1 HN1
  go_wp2_with fail
  go_loopw [11, 12, 13] (fun av ov iv wr => ∃ (k : Nat) (S : Nat → Prop) (s : DS) (rs : List (List Int)) (ow : List Int), k ≤ n ∧ iv = .int .i64 (k : Int) ∧ Hid (Ro S w wr d s j 3 rs av) ∧ Hid (Owns .i64 3 wr ov ow) ∧ Hid (OwI rs ow) ∧ Hid (Ap S w wr j ov) ∧ Hid (∀ k, ov.ownBlock = some k → av.ownBlock ≠ some k)) (fun _ _ iv _ => n - (intOf iv).toNat)
  case atStart => exact ⟨0, S, DS.new 60, [], [], Nat.zero_le _, rfl, ⟨J2.out, owL_nil _ _, (fun k hk => by cases hk), (fun r hr => by simp at hr), (fun p => by rw [new_V]; show 0 = if 2 ≤ p ∧ p < 2 then 1 else 0; rw [if_neg (by omega)]), rfl, (by simp [DS.new]), (by simp)⟩, owns_nil _ _ _, owI_nil, (fun k hk => by cases hk), (fun k hk => by cases hk)⟩
  case round =>
    clear J2
    obtain ⟨k, S, s, rs, ow, hk, rfl, RO, OW, OI, AO, SEP⟩ := hrel
    obtain ⟨aa, ac, rfl, hac1, hac2⟩ := RO.out.al.len
    obtain ⟨oa, oc, hoe, ho1, ho2, _⟩ := id OW.out.rd
    subst hoe
    have hac9 : ac ≤ 9223372036854775807 := by unfold maxLen at hac2; omega
    have hoc9 : oc ≤ 9223372036854775807 := by unfold maxLen at ho2; omega
    have hst := RO.out.len
    have hs50 := RO.out.jd.a5
    have HOL := hideP OI.out.1
    obtain ⟨rl, hrl⟩ : ∃ rl, Hid (rs.length = rl) := ⟨_, rfl⟩
    obtain ⟨ol, hol⟩ : ∃ ol, Hid (ow.length = ol) := ⟨_, rfl⟩
    obtain ⟨a, haa⟩ : ∃ a, Hid (stt rs rl = a) := ⟨_, rfl⟩
    rw [hrl.out] at hst hs50 HOL RO SEP hac1 ⊢
    rw [hol.out] at HOL OW AO SEP ho1 ⊢
    rw [haa.out] at hst hs50 HOL
    have JD : Hid (Jd S w wr d s j 3 rl a) := by have := RO.out.jd; rw [hrl.out, haa.out] at this; exact this
    by_cases hlt : k < n
    · have hkl : (k : Int) < (n : Int) := by omega
      obtain ⟨lb, lo, u, rfl, cu, ru⟩ := HR.out.at_ JD.out.be (k := k) (by rw [hn.out]; exact hlt)
      have HMEM : Hid (rows.getD k [] ∈ rows) := by
        show _ ∈ _
        rw [List.getD_eq_getElem?_getD, List.getElem?_eq_getElem (by rw [hn.out]; exact hlt)]
        exact List.getElem_mem _
      have HYB := hideP (HB.out _ HMEM.out)
      have HRU := hideP ru
      obtain ⟨ua, uc, hue, u1, u2, _⟩ := id ru
      subst hue
      have HLW : Hid (∀ k', (Value.slice ua (rows.getD k []).length uc).ownBlock = some k' → rows.getD k [] ≠ [] → k' < w.heap.size) := fun k' hk' h0 => by
        obtain ⟨lb', lo', u', e1, c1, r1⟩ := HR.out.at_ (Below.refl _ _) (k := k) (by rw [hn.out]; exact hlt)
        cases e1
        have hlb := World.block_lt_of_cell? w ⟨lb, lo + k, none⟩ c1
        rw [(Tch.of_below (S := fun _ => False) JD.out.be).cell (p := ⟨lb, lo + k, none⟩) hlb (fun e => e), c1] at cu
        cases cu
        exact r1.blk_lt h0 hk'
      have HVA : Hid (∀ k', (Value.slice ua (rows.getD k []).length uc).ownBlock = some k' → rows.getD k [] ≠ [] → ¬ S k') := fun k' hk' h0 e => by
        have := HLW.out k' hk' h0
        have := JD.out.s0 k' e
        omega
      have HRM := hideP (room_any j d 3 rl a wr JD.out.jb JD.out.a5)
      have HA := hideP (appJ JD.out hst (.slice ua (rows.getD k []).length uc) (rows.getD k []) HRU.out HYB.out HVA.out RO.out.vi.le)
      have HCB : Hid (∀ W, Below w.heap.size w W → W.cell? ⟨lb, lo + k, none⟩ = some (.slice ua (rows.getD k []).length uc) ∧ Rd .u8 W (.slice ua (rows.getD k []).length uc) (rows.getD k [])) := fun W hW => by
        obtain ⟨lb', lo', u', e1, c1, r1⟩ := HR.out.at_ (Below.refl _ _) (k := k) (by rw [hn.out]; exact hlt)
        cases e1
        have hlb := World.block_lt_of_cell? w ⟨lb, lo + k, none⟩ c1
        have e2 := (Tch.of_below (S := fun _ => False) JD.out.be).cell (p := ⟨lb, lo + k, none⟩) hlb (fun e => e)
        rw [e2, c1] at cu
        cases cu
        exact ⟨by rw [(Tch.of_below (S := fun _ => False) hW).cell (p := ⟨lb, lo + k, none⟩) hlb (fun e => e)]; exact c1, r1.below hW⟩
      obtain ⟨ys, hys⟩ : ∃ ys, Hid (rows.getD k [] = ys) := ⟨_, rfl⟩
      rw [hys.out] at HA cu HCB HLW HYB
      obtain ⟨M, hM⟩ : ∃ M, Hid (npc ys.length = M) := ⟨_, rfl⟩
      have hMp : 1 ≤ M := by rw [← hM.out]; exact npc_pos _
      obtain ⟨yl, hyl⟩ : ∃ yl, Hid (ys.length = yl) := ⟨_, rfl⟩
      rw [hyl.out] at cu HCB HLW
      unfold ApJ at HA
      rw [hM.out] at HA
      rw [hyl.out] at HA
      obtain ⟨r0, hr0⟩ : ∃ r0, Hid (50 - a = r0) := ⟨_, rfl⟩
      rw [hr0.out] at HA HRM
      clear ru u2 HMEM HRU HVA u1
      go_wp2_with fail
      refine HRM.out.mono ?_
      rintro e w4 ⟨rfl, rfl⟩
      go_wp2_with fail
      refine HA.out.mono ?_
      clear HA
      rintro e w5 (⟨h5, rfl, S5, J5, t5, n5⟩ | ⟨h5, rfl, rfl⟩)
      · have HJ5 : Hid (Jd S5 w w5 d (jap s 3 (rl + 1) a ys M) j 3 (rl + 1) (a + M)) := J5
        have A5 : Hid (Ap S5 w w5 j (.slice aa rl ac)) := RO.out.aa.app t5.size n5
        have O5 : Hid (Ap S5 w w5 j (.slice oa ol oc)) := AO.out.app t5.size n5
        have OW5 : Hid (Owns .i64 3 w5 (.slice oa ol oc) ow) := OW.out.tch t5 AO.out.not
        have AL5 : Hid (OwL (fun k => k < w.heap.size) w5 (.slice aa rl ac) rs) := RO.out.al.tch t5 RO.out.aa.not (fun k hk _ e => by
          rcases e with e | e
          · have := RO.out.jd.s0 k e; omega
          · have := RO.out.jd.j0; omega)
        have HRM5 := hideP (room_any j d 3 (rl + 1) (a + M) w5 J5.jb J5.a5)
        obtain ⟨r5, hr5⟩ : ∃ r5, Hid (50 - (a + M) = r5) := ⟨_, rfl⟩
        rw [hr5.out] at HRM5
        have hrr : r5 + M = r0 := by have := hr5.out; have := hr0.out; have := J5.a5; omega
        have hr00 : r0 ≤ 48 := by have := hr0.out; omega
        clear J5 t5 n5 HRM OW AO
        go_wp2_with fail
        refine HRM5.out.mono ?_
        rintro e w6 ⟨rfl, rfl⟩
        clear HRM5
        go_wp2_with fail
        go_loopw [12, 15] (fun ov kv wj => ∃ (t : Nat), t ≤ M ∧ kv = .int .i64 ((r5 + t : Nat) : Int) ∧ Hid (Jd S5 w wj d (jap s 3 (rl + 1) a ys M) j 3 (rl + 1) (a + M)) ∧ Hid (OwL (fun k => k < w.heap.size) wj (.slice aa rl ac) rs) ∧ Hid (Ap S5 w wj j (.slice aa rl ac)) ∧ Hid (Owns .i64 3 wj ov (ow ++ List.replicate t (rl : Int))) ∧ Hid (Ap S5 w wj j ov) ∧ Hid (∀ k, ov.ownBlock = some k → (Value.slice aa rl ac).ownBlock ≠ some k)) (fun _ kv _ => 50 - (intOf kv).toNat)
        case atStart => exact ⟨0, Nat.zero_le _, rfl, HJ5, AL5, A5, by rw [List.replicate_zero, List.append_nil]; exact OW5, O5, SEP⟩
        case round =>
          obtain ⟨wj, rfl⟩ : ∃ wj, wj = wr := ⟨_, rfl⟩
          clear HJ5 AL5 A5 OW5 O5 SEP cu
          obtain ⟨t, ht, rfl, JJ, AL, AA, OW, AO, SEP⟩ := hrel
          obtain ⟨kk, hkk⟩ : ∃ kk, Hid (r5 + t = kk) := ⟨_, rfl⟩
          rw [hkk.out]
          obtain ⟨oa', oc', hoe', _, ho2', _⟩ := id OW.out.rd
          subst hoe'
          have hoc' : oc' ≤ 9223372036854775807 := by unfold maxLen at ho2'; omega
          obtain ⟨ol', hol'⟩ : ∃ x, Hid ((ow ++ List.replicate t (rl : Int)).length = x) := ⟨_, rfl⟩
          have hol9 : ol' ≤ 100 := by
            rw [← hol'.out, List.length_append, List.length_replicate, hol.out]
            have := HOL.out
            omega
          rw [hol'.out] at OW AO SEP ⊢
          by_cases htM : t < M
          · have hkl2 : (kk : Int) < (r0 : Int) := by have := hkk.out; omega
            have HL63 : Hid ((ow ++ List.replicate t (rl : Int)).length + 1 ≤ 9223372036854775807) := by show _ ≤ _; rw [hol'.out]; omega
            have HL47 : Hid (((ow ++ List.replicate t (rl : Int)).length + 1) * 8 ≤ 140737488355328) := by show _ ≤ _; rw [hol'.out]; omega
            go_wp2_with (at_builtin; refine wpList_push _ rfl (.tmp 63) (.tmp 66) 37 rfl 3 .i64 8 elemI (.slice oa' ol' oc') (ow ++ List.replicate t (rl : Int)) rfl OW.out (rl : Int) rfl HL63.out HL47.out ?_)
            intro ov2 w7 OW7 GR7
            have J7 := hideP (JJ.out.grew GR7 AO.out)
            have AL7 := hideP (AL.out.tch GR7.tch (fun k hk e => SEP.out k e hk) (fun k hk _ e => by have := (AO.out k e).1; omega))
            have AA7 : Hid (Ap S5 w w7 j (.slice aa rl ac)) := AA.out.app GR7.tch.size (fun k hk => .inl hk)
            have OW7b : Hid (Owns .i64 3 w7 ov2 (ow ++ List.replicate (t + 1) (rl : Int))) := by
              have e : ow ++ (List.replicate t (rl : Int) ++ [(rl : Int)]) = ow ++ List.replicate (t + 1) (rl : Int) := by rw [List.replicate_succ']
              rw [e] at OW7
              exact OW7
            have AO7 := hideP (Ap.grew JJ.out GR7 AO.out OW7.lt)
            have SEP7 : Hid (∀ k, ov2.ownBlock = some k → (Value.slice aa rl ac).ownBlock ≠ some k) := fun k hk => by
              rcases GR7.fresh k hk with e | e
              · exact SEP.out k e
              · intro e2; have := AL.out.lt k e2; omega
            have hk1 : (kk : Int) + 1 = ((r5 + (t + 1) : Nat) : Int) := by have := hkk.out; omega
            have HK1 : Hid ((kk : Int) + 1 = ((r5 + (t + 1) : Nat) : Int)) := hk1
            clear hk1 OW7 GR7 JJ AL AA OW AO SEP HL63 HL47
            go_wp2_with fail
            go_roundw
            case rel => exact ⟨t + 1, by omega, by have h := HK1.out; simp only [Value.int.injEq, true_and]; first | exact h | (rw [← h]; go_num), J7, AL7, AA7, OW7b, AO7, SEP7⟩
            case measure => simp [intOf]; have := hkk.out; omega
          · have hkl2 : ¬ (kk : Int) < (r0 : Int) := by have := hkk.out; omega
            have htt : t = M := by omega
            rw [htt] at OW
            clear htt
            have HC2 := hideP (HCB.out wj JJ.out.be)
            have c7 := HC2.out.1
            have HUE : Hid (∀ k', (Value.slice ua yl uc).ownBlock = some k' → ys ≠ [] → k' < w.heap.size ∧ k' < wj.heap.size ∧ (Value.slice aa rl ac).ownBlock ≠ some k') := fun k' hk' h0 => by
              have h1 := HLW.out k' hk' h0
              exact ⟨h1, Nat.lt_of_lt_of_le h1 JJ.out.be.size, fun e => by have := (AA.out k' e).1; omega⟩
            have HRL2 : Hid (rs.length + 1 ≤ 2000000000000) := by show _ ≤ _; rw [hrl.out]; omega
            go_wp2_with (at_builtin; refine wpList_pushL wj rfl (.tmp 68) (.tmp 73) rfl (.slice aa rl ac) rs rfl AL.out (.slice ua yl uc) ys HC2.out.2 HUE.out rfl HRL2.out ?_)
            intro av2 w7 AL7 GR7
            have J7 := hideP (JJ.out.grew GR7 AA.out)
            have AA7 := hideP (Ap.grew JJ.out GR7 AA.out AL7.lt)
            have OW7 := hideP (OW.out.tch GR7.tch (fun k hk e => SEP.out k hk e))
            have AO7 : Hid (Ap S5 w w7 j (.slice oa' ol' oc')) := AO.out.app GR7.tch.size (fun k hk => .inl hk)
            have SEP7 : Hid (∀ k, (Value.slice oa' ol' oc').ownBlock = some k → av2.ownBlock ≠ some k) := fun k hk e => by
              rcases GR7.fresh k e with e | e
              · exact SEP.out k hk e
              · have := (AO.out k hk).2.2.2; omega
            have RO7 : Hid (Ro S5 w w7 d (jap s 3 (rl + 1) a ys M) j 3 (rs ++ [ys]) av2) := by
              have hM2 : npc ys.length = M := hM.out
              have ha2 : stt rs rs.length = a := by rw [hrl.out]; exact haa.out
              have e1 : (rs ++ [ys]).length = rl + 1 := by rw [List.length_append, hrl.out]; rfl
              have e2 : stt (rs ++ [ys]) (rs ++ [ys]).length = a + M := by rw [List.length_append]; show stt (rs ++ [ys]) (rs.length + 1) = _; rw [stt_end, ha2, hM2]
              refine ⟨by rw [e1, ← e1, e2, e1]; exact J7.out, AL7, AA7.out, ?_, ?_, by rw [jap_c]; exact RO.out.c0, by rw [jap_L]; exact RO.out.l6, ?_⟩
              · have := cur_app (ys := ys) RO.out.c0 RO.out.cu
                rw [hrl.out, haa.out, hM2] at this
                exact this
              · rw [e2]
                have := RO.out.vi
                rw [ha2] at this
                exact this.app RO.out.c0 (by omega) _ _ _ _
              · intro y hy
                rcases List.mem_append.1 hy with e | e
                · exact RO.out.by_ y e
                · rw [List.mem_singleton.1 e]; exact HYB.out
            have OI7 : Hid (OwI (rs ++ [ys]) (ow ++ List.replicate M (rl : Int))) := by
              have := OI.out.app ys
              rw [hM.out, hrl.out] at this
              exact this
            clear AL7 GR7 JJ AL AA OW AO SEP c7 HC2 HUE
            go_wp2_with fail
            go_roundw
            case rel => exact ⟨k + 1, S5, _, rs ++ [ys], ow ++ List.replicate M (rl : Int), by omega, by go_num, RO7, OW7, OI7, AO7, SEP7⟩
            case measure => simp [intOf]; omega
      · clear h5
        go_wp2_with fail
        go_roundw
        case rel => exact ⟨k + 1, S, s, rs, ow, by omega, by go_num, RO, OW, OI, AO, SEP⟩
        case measure => simp [intOf]; omega
    · have hkl : ¬ (k : Int) < (n : Int) := by omega
      have HFL := hideP (flush_any wr JD.out.dk)
      unfold dp at HFL
      go_wp2_with fail
      refine HFL.out.mono ?_
      rintro e w3 ⟨rfl, d3⟩
      have hfl : s.fl.L.length = s.L.length := fl_L s
      obtain ⟨S3, J3, d3t, d3n2⟩ := JD.out.dkTo2 d3 hfl
      have HJ3 := hideP J3
      have AL3 : Hid (OwL (fun k => k < w.heap.size) w3 (.slice aa rl ac) rs) := RO.out.al.tch d3t (fun k hk e => (RO.out.aa k hk).2.1 e) (fun k hk _ e => by have := RO.out.jd.s0 k e; omega)
      have OW3 : Hid (Owns .i64 3 w3 (.slice oa ol oc) ow) := OW.out.tch d3t (fun k hk e => (AO.out k hk).2.1 e)
      have HAP3 : Hid (∀ k, (Value.slice aa rl ac).ownBlock = some k → ¬ S3 k) := fun k hk e => by
        rcases d3n2 k e with e | e
        · exact (RO.out.aa k hk).2.1 e
        · have := (RO.out.aa k hk).2.2.2; omega
      have HOP3 : Hid (∀ k, (Value.slice oa ol oc).ownBlock = some k → ¬ S3 k) := fun k hk e => by
        rcases d3n2 k e with e | e
        · exact (AO.out k hk).2.1 e
        · have := (AO.out k hk).2.2.2; omega
      clear HFL d3t d3n2
      have HLV : Hid (∀ W, Below w.heap.size w W → Calls Try.prog 29 #[] W fun e w' => e = .returned (.bool true) ∧ Below w.heap.size w w') := fun W hW => (lives_anyJ W).mono (by
        rintro e w' ⟨rfl, hb⟩
        exact ⟨rfl, hW.trans (hb.mono hW.size)⟩)
      by_cases hz : ol = 0
      · have hz1 : ((ol : Int) == 0) = true := by simp [hz]
        clear hz
        have HL3 := hideP (HLV.out w3 HJ3.out.be)
        go_wp2_with fail
        refine HL3.out.mono ?_
        rintro e w4 ⟨rfl, b4⟩
        have B4 := hideP b4
        clear b4
        go_wp2_with fail
        go_ret
        exact ⟨rfl, B4.out⟩
      · have hz1 : ((ol : Int) == 0) = false := by simp [hz]
        have hol1 : 0 < ol := by omega
        have HPK := hideP (pickJ_any which ol hol1 (by have := HOL.out; omega) HW1.out w3)
        have hpl : pk which ol < ol := pk_lt which hol1
        have hbl : pk bit 2048 < 2048 := pk_lt bit (by decide)
        obtain ⟨at_, hat⟩ : ∃ x, Hid (pk which ol = x) := ⟨_, rfl⟩
        obtain ⟨b, hbb⟩ : ∃ x, Hid (pk bit 2048 = x) := ⟨_, rfl⟩
        have HPB : Hid (∀ W, Calls Try.prog 12 #[.int .i64 bit, .int .i64 2048] W fun e w' => e = .returned (.int .i64 (b : Int)) ∧ w' = W) := fun W => by
          have := pickJ_any bit 2048 (by decide) (by decide) HW2.out W
          rw [hbb.out] at this
          exact this
        rw [hat.out] at hpl HPK
        rw [hbb.out] at hbl
        obtain ⟨r, hr1, hr2, hr3, hr4⟩ := OI.out.2 at_ (by rw [hol.out]; exact hpl)
        obtain ⟨p, hp⟩ : ∃ p, 2 + at_ = p := ⟨_, rfl⟩
        obtain ⟨q, hq⟩ : ∃ q, 2048 * p = q := ⟨_, rfl⟩
        obtain ⟨z, hzz⟩ : ∃ z, q + b = z := ⟨_, rfl⟩
        have hp1 : (2 : Int) + (at_ : Int) = (p : Int) := by omega
        have hq1 : (2048 : Int) * (p : Int) = (q : Int) := by omega
        have hz2 : (q : Int) + (b : Int) = (z : Int) := by omega
        have hp50 : p < 50 := by have := HOL.out; omega
        have hq9 : (q : Int) < 1000000 := by omega
        have hz9 : (z : Int) < 1000000 := by omega
        have HZE : Hid (z = 2048 * p + b) := by show _ = _; omega
        have hr5 : r < rl := by rw [← hrl.out]; exact hr1
        rw [hp] at hr3 hr4
        have hs60 : s.fl.L.length = 60 := by rw [fl_L]; exact RO.out.l6
        have HFC : Hid (∀ x, x < rs.length → CurAt s.fl.has 3 (x + 1) (stt rs x) (rs.getD x [])) := fun x hx i hi => by
          have m1 := stt_succ hx
          have m2 := stt_mono (rows := rs) (r := x + 1) (q := rs.length) (by omega) (Nat.le_refl _)
          have m3 : stt rs rs.length ≤ 50 := by rw [hrl.out, haa.out]; exact hs50
          rw [fl_has RO.out.c0 (by rw [RO.out.l6]; omega)]
          exact RO.out.cu x hx i hi
        have HRO : Hid (jopen (s.fl.rot (2048 * p + b)).has 3 = rs.take r) := rot_open RO.out.by_ HFC.out (by rw [hs60]; decide) (by rw [hrl.out, haa.out]; exact hs50) (by decide) hbl (fl_V0 RO.out.c0 p) hr1 hr3 hr4
        rw [← HZE.out] at HRO
        have HROT := hideP (rot_ok z w3 HJ3.out.dk (by rw [hs60]; omega))
        have HRI : Hid (ow.getD at_ 0 = (r : Int)) := hr2
        clear hr2 hr3 hr4 hp hq hzz hz HFC hs60 hr1
        unfold dp at HROT
        go_wp2_with fail
        refine HPK.out.mono ?_
        rintro e w4 ⟨rfl, rfl⟩
        go_wp2_with fail
        refine (HPB.out _).mono ?_
        rintro e w4 ⟨rfl, rfl⟩
        go_wp2_with fail
        refine HROT.out.mono ?_
        rintro e w5 ⟨rfl, d5⟩
        obtain ⟨S5, J5⟩ := HJ3.out.dkTo d5 (rot_L z)
        obtain ⟨_, _, d5t, _⟩ := d5
        have HJ5 := hideP J5
        have AL5 : Hid (OwL (fun k => k < w.heap.size) w5 (.slice aa rl ac) rs) := AL3.out.tch d5t HAP3.out (fun k hk _ e => by have := HJ3.out.s0 k e; omega)
        have OW5 : Hid (Owns .i64 3 w5 (.slice oa ol oc) ow) := OW3.out.tch d5t HOP3.out
        have HOP := hideP (open_any 3 w5 J5.dk J5.l5 (by decide) (by decide))
        rw [HRO.out] at HOP
        clear J5 d5t HROT HPK HPB
        unfold dp at HOP
        go_wp2_with fail
        refine HOP.out.mono ?_
        rintro e w6 ⟨lv, rfl, r6, b6⟩
        have AL6 := hideP (AL5.out.below b6)
        have OW6 := hideP (OW5.out.below b6)
        have B6 : Hid (Below w.heap.size w w6) := HJ5.out.be.trans (b6.mono HJ5.out.be.size)
        have HSA := hideP (sameL_any lv (.slice aa r ac) (rs.take r) w6 r6 (AL6.out.rd.take rfl (by rw [hrl.out]; omega)))
        obtain ⟨la, lc, rfl, _⟩ := id r6
        obtain ⟨oa6, oc6, e6, _, _, _, ho6⟩ := OW6.out.rd
        rw [← hol.out] at e6
        cases e6
        obtain ⟨ob, oo, rfl, hoc⟩ : ∃ b o, oa = some ⟨b, o, none⟩ ∧ ∀ i, i < ow.length → w6.cell? ⟨b, o + i, none⟩ = some (.int .i64 (ow.getD i 0)) := by
          rcases ho6 with e | h
          · rw [e] at hol; have := hol.out; simp at this; omega
          · exact h
        have c6 := hoc at_ (by rw [hol.out]; exact hpl)
        rw [HRI.out] at c6
        have hsr := slice_rows aa rl ac r (by omega) hac1
        have hatI : (at_ : Int) < (ol : Int) := by omega
        clear ho6 hoc b6 r6 HOP HZE
        obtain ⟨ln, hln⟩ : ∃ x, Hid ((rs.take r).length = x) := ⟨_, rfl⟩
        rw [hln.out] at HSA ⊢
        go_wp2_with fail
        refine HSA.out.mono ?_
        rintro e w7 ⟨rfl, b7⟩
        have HL7 := hideP (HLV.out w7 (B6.out.trans (b7.mono B6.out.size)))
        clear b7 HSA c6 hsr
        go_wp2_with fail
        refine HL7.out.mono ?_
        rintro e w8 ⟨rfl, b8⟩
        have B8 := hideP b8
        clear b8
        go_wp2_with fail
        go_ret
        exact ⟨rfl, B8.out⟩
end Go.Proofs.Ytaacidgihhcpkaa
