import Derived.Test.YtgpaklifjonlkaaKP05
import Derived.Laws.CopyOwn
import Derived.Test.YtgpaklifjonlkaaKP03
/-
  The program's block of a sector, be it so or not; and whether one may be.
-/
namespace Go.Proofs.Ytgpaklifjonlkaa
open Go.RowKit Pl
set_option linter.unusedVariables false
set_option linter.unusedSimpArgs false
set_option maxRecDepth 100000

/-- A block as a value. -/
def blk (k : Int) (v : Value) : Value := .agg #[.int .i64 k, v]

set_option maxHeartbeats 400000 in
theorem mayBe_any (n k : Int) (a : Option Addr) (l cap : Nat) (w : World) (hl : l ≤ 9223372036854775807) :
    Calls Try.prog 69 #[.int .i64 n, blk k (.slice a l cap)] w fun e w' => e = .returned (.bool (mayK n k l)) ∧ Below w.heap.size w w' := by
  unfold blk
  have HB : Hid (∀ o, Below w.heap.size w (w.alloc o)) := fun o => (Below.refl _ _).alloc (Nat.le_refl _) _
  have he : ∀ b : Bool, mayK n k l = b → mayK n k l = b := fun _ e => e
  by_cases h1 : 0 ≤ n
  · by_cases h2 : n ≤ 65535
    · by_cases h3 : 1 ≤ k
      · by_cases h4 : k ≤ 4
        · by_cases h5 : l ≤ 240
          · have h6 : (l : Int) ≤ 240 := by omega
            have e : mayK n k l = true := mayK_iff.2 ⟨h1, h2, h3, h4, h5⟩
            rw [e]
            clear e he
            go_enter Try.func69, Try.ntmps69
            go_wp2_with fail
            go_ret
            exact ⟨rfl, HB.out _⟩
          · have h6 : decide ((l : Int) ≤ 240) = false := by rw [decide_eq_false_iff_not]; omega
            have e : mayK n k l = false := by rw [Bool.eq_false_iff, ne_eq, mayK_iff]; omega
            rw [e]
            clear e he
            go_enter Try.func69, Try.ntmps69
            go_wp2_with fail
            go_ret
            exact ⟨rfl, HB.out _⟩
        · have h6 : decide (k ≤ 4) = false := by rw [decide_eq_false_iff_not]; omega
          have e : mayK n k l = false := by rw [Bool.eq_false_iff, ne_eq, mayK_iff]; omega
          rw [e]
          clear e he
          go_enter Try.func69, Try.ntmps69
          go_wp2_with fail
          go_ret
          exact ⟨rfl, HB.out _⟩
      · have h6 : decide (1 ≤ k) = false := by rw [decide_eq_false_iff_not]; omega
        have h7 : decide (k ≥ 1) = false := by rw [decide_eq_false_iff_not]; omega
        have e : mayK n k l = false := by rw [Bool.eq_false_iff, ne_eq, mayK_iff]; omega
        rw [e]
        clear e he
        go_enter Try.func69, Try.ntmps69
        go_wp2_with fail
        go_ret
        exact ⟨rfl, HB.out _⟩
    · have h6 : decide (n ≤ 65535) = false := by rw [decide_eq_false_iff_not]; omega
      have e : mayK n k l = false := by rw [Bool.eq_false_iff, ne_eq, mayK_iff]; omega
      rw [e]
      clear e he
      go_enter Try.func69, Try.ntmps69
      go_wp2_with fail
      go_ret
      exact ⟨rfl, HB.out _⟩
  · have h6 : decide (0 ≤ n) = false := by rw [decide_eq_false_iff_not]; omega
    have h7 : decide (n ≥ 0) = false := by rw [decide_eq_false_iff_not]; omega
    have e : mayK n k l = false := by rw [Bool.eq_false_iff, ne_eq, mayK_iff]; omega
    rw [e]
    clear e he
    go_enter Try.func69, Try.ntmps69
    go_wp2_with fail
    go_ret
    exact ⟨rfl, HB.out _⟩

theorem bcs_splice (L cs : List Int) (off : Nat) : splice (bcs L) off (bcs cs) = bcs (splice L off cs) := by
  unfold splice bcs
  simp only [List.map_append, List.map_take, List.map_drop, List.length_map]

theorem inf_u8 : (Try.prog.info? 5).map (·.size) = some 1 := by kernel_rfl

/-- 'copy(d, s)' into a block of bytes. -/
theorem wpList_copyB (w : World) {ops : Array Oper} {rest : List Oper} {o : Oper} {a : Act} {Q : Exit → Act → World → Prop} (hgd : o.guard = none) (d s : Operand)
    (ho : o.op = .call { callee := .builtin .copy, args := #[d, s], argTypes := #[38, 38] }) (g off dLen dCap : Nat) (hd : a.eval d = .slice (some ⟨g, off, none⟩) dLen dCap)
    (cur : List Int) (t : TypeId) (hg : w.heap[g]? = some (.cells (bcs cur).toArray t (0, 0))) (v : Value) (xs : List Int) (hs : a.eval s = v) (hr : Rd .u8 w v xs) (hfit : off + min xs.length dLen ≤ cur.length)
    (B : Nat) (w0 : World) (hB : Below B w0 w) (hBg : B ≤ g)
    (h : ∀ w', Hid (w'.heap[g]? = some (.cells (bcs (splice cur off (xs.take dLen))).toArray t (0, 0))) → Hid (Below B w0 w') → wpList Try.prog ops Q rest (a.put o.dst (goInt (xs.take dLen).length)) w') : wpList Try.prog ops Q (o :: rest) a w := by
  obtain ⟨sp, cap, rfl, h1, h2, h3, h4⟩ := hr
  refine wpList_copy_splice hgd d s 38 38 ho 5 Try.underlying38 inf_u8 (some ⟨g, off, none⟩) sp dLen dCap xs.length cap hd hs g off (bcs cur) t hg (bcs (xs.take dLen)) ?_ ?_ ?_ (bcs_one _) B w0 hB hBg ?_
  · rw [bcs_len, List.length_take]; exact Nat.min_comm _ _
  · intro hp
    refine ⟨rfl, ?_⟩
    rw [bcs_len, List.length_take] at hp
    rcases h4 with rfl | ⟨b, o, rfl, hc⟩
    · simp at hp
    · refine ⟨_, rfl, fun j u hu => ?_⟩
      have hjl : j < (bcs (xs.take dLen)).length := (List.getElem?_eq_some_iff.1 hu).1
      rw [bcs_len, List.length_take] at hjl
      rw [Addr.add_lit, hc j (by omega)]
      rw [bcs, List.getElem?_map, List.getElem?_take, if_pos (by omega), List.getElem?_eq_getElem (by omega)] at hu
      simp only [Option.map_some, Option.some.injEq] at hu
      rw [← hu, List.getD_eq_getElem?_getD, List.getElem?_eq_getElem (by omega)]
      rfl
  · rw [bcs_len, bcs_len, List.length_take]; omega
  · intro w' hh hb'
    have hh' := hh.out
    rw [bcs_splice] at hh'
    rw [bcs_len]
    exact h w' hh' hb'

/-- So many noughts. -/
def zr (n : Nat) : List Int := List.replicate n 0
theorem zr_len (n : Nat) : (zr n).length = n := by unfold zr; exact List.length_replicate
/-- A new row of noughts. -/
theorem made_blk {w : World} {e : TypeId} {g n : Nat} (h : w.ownsRow 0 e 1 (.slice (some ⟨g, 0, none⟩) n n) n (List.replicate n (.int .u8 0))) : w.heap[g]? = some (.cells (bcs (zr n)).toArray e (0, 0)) := by
  rcases h.2 with ⟨h0, _⟩ | ⟨g', cap, cur, hv, _, hg, hnc, hcm, hcs, htake⟩
  · cases h0
  · cases hv
    rw [hg]
    have e1 : cur.toList = bcs (zr n) := by
      have : cur.toList.take (n * 1) = cur.toList := List.take_of_length_le (by rw [Array.length_toList, hcs]; omega)
      rw [← this, htake, bcs, zr, List.map_replicate]
    rw [← e1]

theorem slice_frm_lh (g : Nat) (w : World) : (Instr.sliceAt 106 (.pointer (some ⟨g, 0, none⟩)) (some (.int .i64 8)) (some (.int .i64 252)) none).run Try.prog w = .ok (.slice (some ⟨g, 8, none⟩) 244 248) w := by
  have := run_sliceAt_array_lh w 106 ⟨g, 0, none⟩ arr_und .i64 .i64 8 252 (by omega) (by omega) (by rw [arr_len]; omega)
  rw [arr_len, arr_el] at this
  rw [this]
  simp [slicedAt, go_sem]

theorem Fv.rdMid {w : World} {g : Nat} {xs : List Int} (h : Fv w g xs) : Rd .u8 w (.slice (some ⟨g, 8, none⟩) 244 248) ((xs.drop 8).take 244) := by
  have hl := h.2.1
  have e : ((xs.drop 8).take 244).length = 244 := by rw [List.length_take, List.length_drop]; omega
  refine ⟨_, 248, by rw [e], by omega, by unfold maxLen; omega, (fun e => by cases e), .inr ⟨g, 8, rfl, fun i hi => ?_⟩⟩
  rw [e] at hi
  rw [h.cell (by omega), List.getD_eq_getElem?_getD, List.getD_eq_getElem?_getD, List.getElem?_take, if_pos hi, List.getElem?_drop]

theorem info_u8B : (Try.prog.info? 5).map (fun i => (i.zero, i.size, i.bytes)) = some (some (.int .u8 0), 1, 1) := by kernel_rfl

theorem inf_blk : (Try.prog.info? 40).map (·.size) = some 2 := by kernel_rfl
/-- A variable that is a block. -/
def Bkv (w : World) (b : Nat) (K : Int) (v : Value) : Prop := w.heap[b]? = some (.cells #[.int .i64 K, v] 40 (0, 0))
section
variable {w w' : World} {b : Nat} {K : Int} {v : Value}
theorem Bkv.range (h : Bkv w b K v) : w.rangeAt b 0 [.int .i64 K, v] := fun j u hu => by
  rw [Nat.zero_add, cell_of_row w b j _ _ (0, 0) h, List.getElem?_toArray]
  exact hu
theorem Bkv.load (h : Bkv w b K v) : (loadVar 40 ⟨b, 0, none⟩).run Try.prog w = .ok (blk K v) w :=
  run_loadVar_mid (P := Try.prog) w b 0 40 [.int .i64 K, v] _ h.range Try.underlying40 rfl inf_blk
theorem Bkv.c0 (h : Bkv w b K v) : w.cell? ⟨b, 0, none⟩ = some (.int .i64 K) := by rw [cell_of_row w b 0 _ _ (0, 0) h]; rfl
theorem Bkv.c1 (h : Bkv w b K v) : w.cell? ⟨b, 1, none⟩ = some v := by rw [cell_of_row w b 1 _ _ (0, 0) h]; rfl
theorem Bkv.fz (h : Bkv w b K v) (i : Nat) : w.frozen? ⟨b, i, none⟩ = false := frozen_of_row w b i _ _ h
theorem Bkv.lt (h : Bkv w b K v) : b < w.heap.size := (Array.getElem?_eq_some_iff.1 h).1
theorem Bkv.tch {S : Nat → Prop} (h : Bkv w b K v) (ht : Tch S w w') (hb : ¬ S b) : Bkv w' b K v := by unfold Bkv; rw [ht.block b h.lt hb]; exact h
theorem Bkv.below (h : Bkv w b K v) (hb : Below w.heap.size w w') : Bkv w' b K v := h.tch (S := fun _ => False) (Tch.of_below hb) (fun e => e)
theorem Bkv.put (h : Bkv w b K v) (J : Int) (u : Value) : Bkv ((w.setCell ⟨b, 0, none⟩ (.int .i64 J)).setCell ⟨b, 1, none⟩ u) b J u := by
  have h1 := heap_setCell_same w b 0 _ _ (.int .i64 J) h
  have h2 := heap_setCell_same _ b 1 _ _ u h1
  exact h2
theorem bkv_new (w : World) (K : Int) (v : Value) : Bkv (w.alloc (.cells #[.int .i64 K, v] 40)) w.heap.size K v := heap_alloc_new w _
end
end Go.Proofs.Ytgpaklifjonlkaa
/-
  A block's sector byte by byte, plainly; rows that are made at once.
-/
namespace Go.Proofs.Ytgpaklifjonlkaa
open Go.RowKit Pl
set_option linter.unusedVariables false

theorem take_snocB (T : List Int) (m : Nat) (h : m < T.length) : T.take (m + 1) = T.take m ++ [T.getD m 0] := by
  rw [List.take_succ_eq_append_getElem h, List.getD_eq_getElem?_getD, List.getElem?_eq_getElem h]
  rfl
theorem sec_8 (n k : Int) (ys : List Int) : (sec n k ys).take 8 = [k, (ys.length : Int), n % 256, n / 256, 0, 0, 0, 0] := by
  simp [sec, pre]
theorem sec_8l (n k : Int) (ys : List Int) : (sec n k ys).take 8 ++ ys = (sec n k ys).take (8 + ys.length) := by
  rw [sec_8]
  obtain ⟨H, hH⟩ : ∃ H, [k, (ys.length : Int), n % 256, n / 256, 0, 0, 0, 0] = H := ⟨_, rfl⟩
  have hl : H.length = 8 := by rw [← hH]; rfl
  unfold sec pre
  rw [hH, List.append_assoc, List.take_append, List.take_of_length_le (by omega), hl, Nat.add_sub_cancel_left, List.append_assoc, List.take_left]
theorem sec_z (n k : Int) {ys : List Int} (h : ys.length ≤ 244) {m : Nat} (h1 : 8 + ys.length ≤ m) (h2 : m < 252) : (sec n k ys).getD m 0 = 0 := by
  obtain ⟨H, hH⟩ : ∃ H, [k, (ys.length : Int), n % 256, n / 256, 0, 0, 0, 0] = H := ⟨_, rfl⟩
  have hl : H.length = 8 := by rw [← hH]; rfl
  unfold sec pre
  rw [hH, List.getD_eq_getElem?_getD, List.append_assoc, List.getElem?_append_right (by omega), List.append_assoc, List.getElem?_append_right (by omega), List.getElem?_append_left (by rw [List.length_replicate]; omega), List.getElem?_replicate, if_pos (by omega)]
  rfl
theorem sec_s (n k : Int) {ys : List Int} (h : ys.length ≤ 244) {t : Nat} (ht : t < 4) : (sec n k ys).getD (252 + t) 0 = ((crc (pre n k ys) / 2 ^ (8 * t) % 256 : Nat) : Int) := by
  have hl := pre_len n k h
  unfold sec
  rw [List.getD_eq_getElem?_getD, List.getElem?_append_right (by omega), hl, Nat.add_sub_cancel_left, ← List.getD_eq_getElem?_getD]
  match t, ht with
  | 0, _ => simp [le4]
  | 1, _ => rfl
  | 2, _ => rfl
  | 3, _ => rfl

theorem owns_built (k : IntKind) (e : TypeId) (w : World) (xs : List Int) (hm : xs.length ≤ maxLen) : Owns k e (w.alloc (.cells (xs.map (Value.int k)).toArray e)) (.slice (some ⟨w.heap.size, 0, none⟩) xs.length xs.length) xs := by
  refine ⟨by simp, .inr ⟨w.heap.size, xs.length, _, rfl, Nat.zero_le _, heap_alloc_new w _, Nat.le_refl _, hm, by simp, ?_⟩⟩
  rw [List.toList_toArray, List.take_of_length_le (by simp)]
end Go.Proofs.Ytgpaklifjonlkaa
/-
  The document's Put.
-/
namespace Go.Proofs.Ytgpaklifjonlkaa
open Go.RowKit Pl
set_option linter.unusedVariables false
set_option linter.unusedSimpArgs false
set_option maxRecDepth 100000

/-- What the document tells of a block that is to be put. -/
def PutD (n k : Int) (ys : List Int) (w : World) (e : Ending) (w' : World) : Prop :=
  ∃ v c, e = .returned (.tuple #[v, .int .i64 c]) ∧ Below w.heap.size w w' ∧ ((mayK n k ys.length = true ∧ c = 0 ∧ Rd .u8 w' v (sec n k ys)) ∨ (mayK n k ys.length = false ∧ c = 1 ∧ v = .slice none 0 0))

set_option maxHeartbeats 400000 in
theorem refPutB_bad (n k : Int) (a : Option Addr) (l cap : Nat) (w : World) (hl : l ≤ 9223372036854775807) (hm : mayK n k l = false) :
    Calls Try.prog 25 #[.int .i64 n, blk k (.slice a l cap)] w fun e w' => e = .returned (.tuple #[.slice none 0 0, .int .i64 1]) ∧ Below w.heap.size w w' := by
  unfold blk
  have HB : Hid (∀ o, Below w.heap.size w (w.alloc o)) := fun o => (Below.refl _ _).alloc (Nat.le_refl _) _
  rw [Bool.eq_false_iff, ne_eq, mayK_iff] at hm
  by_cases h1 : n < 0
  · clear hm
    go_enter Try.func25, Try.ntmps25
    go_wp2_with fail
    go_ret2
    exact ⟨rfl, HB.out _⟩
  · have g1 : decide (n < 0) = false := by rw [decide_eq_false_iff_not]; omega
    by_cases h2 : n > 65535
    · clear hm
      go_enter Try.func25, Try.ntmps25
      go_wp2_with fail
      go_ret2
      exact ⟨rfl, HB.out _⟩
    · have g2 : decide (n > 65535) = false := by rw [decide_eq_false_iff_not]; omega
      by_cases h3 : k < 1
      · clear hm
        go_enter Try.func25, Try.ntmps25
        go_wp2_with fail
        go_ret2
        exact ⟨rfl, HB.out _⟩
      · have g3 : decide (k < 1) = false := by rw [decide_eq_false_iff_not]; omega
        by_cases h4 : k > 4
        · clear hm
          go_enter Try.func25, Try.ntmps25
          go_wp2_with fail
          go_ret2
          exact ⟨rfl, HB.out _⟩
        · have g4 : decide (k > 4) = false := by rw [decide_eq_false_iff_not]; omega
          have h5 : (l : Int) > 240 := by omega
          clear hm
          go_enter Try.func25, Try.ntmps25
          go_wp2_with fail
          go_ret2
          exact ⟨rfl, HB.out _⟩

theorem crc_ltR (xs : List Int) : crc xs < 4294967296 := by unfold crc; omega

set_option maxHeartbeats 1000000 in
theorem refPutB_new (n k : Int) (v : Value) (ys : List Int) (w : World) (hr : Rd .u8 w v ys) (hb : By ys) (hm : mayK n k ys.length = true) :
    Calls Try.prog 25 #[.int .i64 n, blk k v] w fun e w' => ∃ v, e = .returned (.tuple #[v, .int .i64 0]) ∧ Rd .u8 w' v (sec n k ys) ∧ Below w.heap.size w w' ∧ ∀ j, v.ownBlock = some j → w.heap.size ≤ j := by
  obtain ⟨a, cap, rfl, h1, h2, _⟩ := id hr
  obtain ⟨m1, m2, m3, m4, m5⟩ := mayK_iff.1 hm
  have hcap : cap ≤ 9223372036854775807 := by unfold maxLen at h2; omega
  obtain ⟨T, hT⟩ : ∃ T, Hid (sec n k ys = T) := ⟨_, rfl⟩
  have hy4 : ys.length ≤ 244 := by omega
  have HTl : Hid (T.length = 256) := by rw [← hT.out]; exact sec_len n k hy4
  have HT8 : Hid (T.take 8 = [k, (ys.length : Int), n % 256, n / 256, 0, 0, 0, 0]) := by rw [← hT.out]; exact sec_8 n k ys
  have HTY : Hid (T.take 8 ++ ys = T.take (8 + ys.length)) := by rw [← hT.out]; exact sec_8l n k ys
  have HTZ : Hid (∀ m, 8 + ys.length ≤ m → m < 252 → T.take m ++ [0] = T.take (m + 1)) := fun m g1 g2 => by
    rw [take_snocB T m (by rw [HTl.out]; omega), ← hT.out, sec_z n k hy4 g1 g2]
  have HTS : Hid (∀ t, t < 4 → T.take (252 + t) ++ [((crc (T.take 252) / 2 ^ (8 * t) % 256 : Nat) : Int)] = T.take (252 + t + 1)) := fun t ht => by
    have e : T.take 252 = pre n k ys := by rw [← hT.out]; exact sec_take n k hy4
    rw [take_snocB T (252 + t) (by rw [HTl.out]; omega), e, ← sec_s n k hy4 ht, hT.out]
  have HTB : Hid (By (T.take 252)) := by rw [← hT.out, sec_take n k hy4]; exact pre_by ⟨m1, m2⟩ ⟨m3, m4⟩ hb hy4
  have HLm : Hid (∀ m, m ≤ 256 → (T.take m).length = m) := fun m h => by rw [List.length_take, HTl.out]; omega
  rw [hT.out]
  have HR : Hid (Rd .u8 w (.slice a ys.length cap) ys) := hr
  obtain ⟨l, hl⟩ : ∃ l, Hid (ys.length = l) := ⟨_, rfl⟩
  rw [hl.out] at HR h1 m5 hm HT8 HTY HTZ ⊢
  have g1 : decide (n < 0) = false := by rw [decide_eq_false_iff_not]; omega
  have g2 : decide (n > 65535) = false := by rw [decide_eq_false_iff_not]; omega
  have g3 : decide (k < 1) = false := by rw [decide_eq_false_iff_not]; omega
  have g4 : decide (k > 4) = false := by rw [decide_eq_false_iff_not]; omega
  have g5 : decide ((l : Int) > 240) = false := by rw [decide_eq_false_iff_not]; omega
  obtain ⟨W1, hW1⟩ : ∃ W1, w.alloc (.cells #[.int .i64 k, .slice a l cap] 40) = W1 := ⟨_, rfl⟩
  have b1 : Hid (Below w.heap.size w W1) := by rw [← hW1]; exact (Below.refl _ _).alloc (Nat.le_refl _) _
  have Q1 : Hid (Bkv W1 w.heap.size k (.slice a l cap)) := by rw [← hW1]; exact bkv_new w _ _
  have R1 : Hid (Rd .u8 W1 (.slice a l cap) ys) := HR.out.below b1.out
  have q0 := Q1.out.c0
  have q1 := Q1.out.c1
  have u1 : n.tmod 256 = n % 256 := Int.tmod_eq_emod_of_nonneg m1
  have u2 : n.tdiv 256 = n / 256 := Int.tdiv_eq_ediv_of_nonneg m1
  obtain ⟨W2, hW2⟩ : ∃ W2, W1.alloc (.cells #[.int .u8 k, .int .u8 (l : Int), .int .u8 (n % 256), .int .u8 (n / 256), .int .u8 0, .int .u8 0, .int .u8 0, .int .u8 0] 5) = W2 := ⟨_, rfl⟩
  have s1 : W1.heap.size = w.heap.size + 1 := by rw [← hW1]; simp
  have b12 : Below W1.heap.size W1 W2 := by rw [← hW2]; exact (Below.refl _ _).alloc (Nat.le_refl _) _
  have B2 : Hid (Below w.heap.size w W2) := b1.out.trans (b12.mono (by omega))
  have O2 : Hid (Owns .u8 5 W2 (.slice (some ⟨w.heap.size + 1, 0, none⟩) 8 8) (T.take 8)) := by
    have := owns_built .u8 5 W1 [k, (l : Int), n % 256, n / 256, 0, 0, 0, 0] (by unfold maxLen; simp)
    rw [s1] at this
    rw [HT8.out, ← hW2]
    exact this
  have R2 : Hid (Rd .u8 W2 (.slice a l cap) ys) := R1.out.below b12
  have Q2 : Hid (Bkv W2 w.heap.size k (.slice a l cap)) := Q1.out.below b12
  have p1 := Q2.out.c1
  have HA1 : Hid ((T.take 8).length + ys.length ≤ 9223372036854775807) := by show _ ≤ _; rw [HLm.out 8 (by omega), hl.out]; omega
  have HA2 : Hid (((T.take 8).length + ys.length) * 1 ≤ 140737488355328) := by show _ ≤ _; rw [HLm.out 8 (by omega), hl.out]; omega
  clear hr hb hm h2 hy4 b12
  unfold blk
  go_enter Try.func25, Try.ntmps25
  go_wp2_with (at_builtin; refine wpList_many _ rfl (.tmp 45) (.tmp 47) 38 rfl 5 .u8 1 elem8 _ (T.take 8) ?h1 O2.out _ ys ?h2 R2.out HA1.out HA2.out ?_; (case h1 => kernel_rfl); (case h2 => kernel_rfl))
  intro ov3 w3 o3 gr3
  rw [HTY.out] at o3
  have O3 : Hid (Owns .u8 5 w3 ov3 (T.take (8 + l))) := o3
  have gn := gr3.onto B2.out (fun k hk => by cases hk; exact Nat.le_succ _)
  have B3 : Hid (Below w.heap.size w w3) := gn.1
  have N3 : Hid (∀ j, ov3.ownBlock = some j → w.heap.size ≤ j) := gn.2
  clear o3 gr3 gn O2 B2 R2 Q2 p1 q0 q1 Q1 R1 b1 HR HA1 HA2 hW1 hW2 s1 u1 u2 g1 g2 g3 g4 g5 HT8 HTY
  go_wp2_with fail
  go_loopw [6] (fun v wr => ∃ (m : Nat) (v0 : Value), 8 + l ≤ m ∧ m ≤ 252 ∧ v0 = v ∧ Hid (Owns .u8 5 wr v0 (T.take m)) ∧ Hid (Below w.heap.size w wr) ∧ Hid (∀ j, v0.ownBlock = some j → w.heap.size ≤ j)) (fun v _ => 252 - (match v with | .slice _ l _ => l | _ => 0))
  case atStart => exact ⟨8 + l, ov3, Nat.le_refl _, by omega, rfl, O3, B3, N3⟩
  case round =>
    clear O3 B3 N3
    obtain ⟨m, v0, hm1, hm2, rfl, O1, B1, N1⟩ := hrel
    obtain ⟨g, cp, hv, hgl, hcp1, hcp2, _⟩ := O1.out.shape (by rw [HLm.out m (by omega)]; omega)
    rw [HLm.out m (by omega)] at hv hcp1
    subst hv
    have hcp3 : cp ≤ 9223372036854775807 := by unfold maxLen at hcp2; omega
    by_cases hlt : m < 252
    · have HLN : Hid ((T.take m).length = m) := HLm.out m (by omega)
      have hlt2 : (m : Int) < 252 := by omega
      go_wp2_with (at_builtin; refine wpList_push _ rfl (.tmp 52) (.tmp 53) 38 rfl 5 .u8 1 elem8 _ (T.take m) rfl O1.out 0 rfl (by rw [HLN.out]; omega) (by rw [HLN.out]; omega) ?_)
      intro v2 w2 o2 g2
      rw [HTZ.out m hm1 hlt] at o2
      have O2 : Hid (Owns .u8 5 w2 v2 (T.take (m + 1))) := o2
      have gn := g2.onto B1.out N1.out
      have B2 : Hid (Below w.heap.size w w2) := gn.1
      have N2 : Hid (∀ j, v2.ownBlock = some j → w.heap.size ≤ j) := gn.2
      obtain ⟨g', cp', hv', _⟩ := O2.out.shape (by rw [HLm.out (m + 1) (by omega)]; omega)
      rw [HLm.out (m + 1) (by omega)] at hv'
      subst hv'
      clear o2 g2 gn O1 B1 N1 HLN
      go_wp2_with fail
      go_roundw
      case rel => exact ⟨m + 1, _, by omega, by omega, rfl, O2, B2, N2⟩
      case measure => simp; omega
    · have hm0 : m = 252 := by omega
      rw [hm0] at O1
      have hnn : ¬ (m : Int) < 252 := by omega
      have R1 : Hid (Rd .u8 wr (.slice (some ⟨g, 0, none⟩) m cp) (T.take 252)) := by
        have := O1.out.rd
        rw [hm0]
        exact this
      have O2 : Hid (Owns .u8 5 wr (.slice (some ⟨g, 0, none⟩) m cp) (T.take (252 + 0))) := by
        rw [hm0]
        exact O1
      clear O1 hm0 hm1 hm2 hlt hgl
      go_wp2_with fail
      refine (refCrc_any _ (T.take 252) wr R1.out HTB.out).mono ?_
      rintro e w4 ⟨rfl, hb4⟩
      obtain ⟨s, hs⟩ : ∃ s, crc (T.take 252) = s := ⟨_, rfl⟩
      have hs4 : s < 4294967296 := by rw [← hs]; exact crc_ltR (T.take 252)
      rw [hs] at HTS ⊢
      have O4 : Hid (Owns .u8 5 w4 (.slice (some ⟨g, 0, none⟩) m cp) (T.take (252 + 0))) := O2.out.below hb4
      have B4 : Hid (Below w.heap.size w w4) := B1.out.trans (hb4.mono B1.out.size)
      clear hs O2 R1 B1 hb4 hnn
      go_wp2_with fail
      go_loopw [6, 8] (fun v k wr => ∃ (t : Nat) (v0 : Value), t ≤ 4 ∧ k = .int .i64 t ∧ v0 = v ∧ Hid (Owns .u8 5 wr v0 (T.take (252 + t))) ∧ Hid (Below w.heap.size w wr) ∧ Hid (∀ j, v0.ownBlock = some j → w.heap.size ≤ j)) (fun _ k _ => 4 - (intOf k).toNat)
      case atStart => exact ⟨0, _, by decide, rfl, rfl, O4, B4, N1⟩
      case round =>
        clear O4 B4 N1 hcp1 hcp2 hcp3
        obtain ⟨t, v0, ht, rfl, rfl, O1, B1, N1⟩ := hrel
        by_cases hlt : t < 4
        · have HLN : Hid ((T.take (252 + t)).length = 252 + t) := HLm.out _ (by omega)
          have HST := hideP (HTS.out t hlt)
          obtain ⟨M, hM⟩ : ∃ M, 8 * t = M := ⟨_, rfl⟩
          have hM1 : 8 * (t : Int) = (M : Int) := by omega
          have hM2 : (M : Int) ≤ 24 := by omega
          obtain ⟨Y, hY⟩ : ∃ Y, s / 2 ^ M = Y := ⟨_, rfl⟩
          rw [hM, hY] at HST
          have hYN : Y ≤ s := by rw [← hY]; exact Nat.div_le_self _ _
          have y1 : (s : Int) / 2 ^ M = (Y : Int) := by rw [← hY, Int.natCast_ediv, Int.natCast_pow]; rfl
          obtain ⟨b, hb⟩ : ∃ b, Y % 256 = b := ⟨_, rfl⟩
          have y2 : IntKind.u8.wrap (Y : Int) = (b : Int) := by rw [IntKind.wrap_u8']; omega
          have y3 : (Y : Int) % 256 = (b : Int) := by omega
          have y4 : IntKind.i64.wrap (Y : Int) = (Y : Int) := by rw [IntKind.wrap_i64]; omega
          rw [hb] at HST
          clear hY hb hM
          go_wp2_with (at_builtin; refine wpList_push _ rfl (.tmp 61) (.tmp 67) 38 rfl 5 .u8 1 elem8 _ (T.take (252 + t)) rfl O1.out (b : Int) rfl (by rw [HLN.out]; omega) (by rw [HLN.out]; omega) ?_)
          intro v2 w2 o2 g2
          rw [HST.out] at o2
          have O2 : Hid (Owns .u8 5 w2 v2 (T.take (252 + (t + 1)))) := o2
          have gn := g2.onto B1.out N1.out
          have B2 : Hid (Below w.heap.size w w2) := gn.1
          have N2 : Hid (∀ j, v2.ownBlock = some j → w.heap.size ≤ j) := gn.2
          clear o2 g2 gn O1 B1 N1 HLN HST
          go_wp2_with fail
          go_roundw
          case rel => exact ⟨t + 1, _, by omega, by go_num, rfl, O2, B2, N2⟩
          case measure => simp [intOf]; omega
        · have ht4 : t = 4 := by omega
          rw [ht4] at O1
          have hnn : ¬ (t : Int) < 4 := by omega
          have HRD : Hid (Rd .u8 wr v0 T) := by
            have := O1.out.rd
            rw [List.take_of_length_le (by rw [HTl.out]; decide)] at this
            exact this
          clear hlt ht4 O1
          go_wp2_with fail
          go_ret2
          exact ⟨_, rfl, HRD.out, B1.out, N1.out⟩
theorem refPutB_ok (n k : Int) (v : Value) (ys : List Int) (w : World) (hr : Rd .u8 w v ys) (hb : By ys) (hm : mayK n k ys.length = true) :
    Calls Try.prog 25 #[.int .i64 n, blk k v] w fun e w' => ∃ v, e = .returned (.tuple #[v, .int .i64 0]) ∧ Rd .u8 w' v (sec n k ys) ∧ Below w.heap.size w w' := by
  refine (refPutB_new n k v ys w hr hb hm).mono ?_
  rintro e w' ⟨u, rfl, h1, h2, _⟩
  exact ⟨u, rfl, h1, h2⟩
end Go.Proofs.Ytgpaklifjonlkaa
/-
  The document's Same of two blocks.
-/
namespace Go.Proofs.Ytgpaklifjonlkaa
open Go.RowKit Pl
set_option linter.unusedVariables false
set_option linter.unusedSimpArgs false
set_option maxRecDepth 100000

set_option maxHeartbeats 400000 in
theorem same2_any (k1 k2 : Int) (u v : Value) (xs ys : List Int) (w : World) (hx : Rd .u8 w u xs) (hy : Rd .u8 w v ys) :
    Calls Try.prog 23 #[blk k1 u, blk k2 v] w fun e w' => e = .returned (.bool (decide (k1 = k2) && decide (xs = ys))) ∧ Below w.heap.size w w' := by
  obtain ⟨a, ca, rfl, _⟩ := id hx
  obtain ⟨b, cb, rfl, _⟩ := id hy
  obtain ⟨W1, hW1⟩ : ∃ W1, w.alloc (.cells #[.int .i64 k1, .slice a xs.length ca] 40) = W1 := ⟨_, rfl⟩
  obtain ⟨W2, hW2⟩ : ∃ W2, W1.alloc (.cells #[.int .i64 k2, .slice b ys.length cb] 40) = W2 := ⟨_, rfl⟩
  have s1 : W1.heap.size = w.heap.size + 1 := by rw [← hW1]; simp
  have b1 : Below w.heap.size w W1 := by rw [← hW1]; exact (Below.refl _ _).alloc (Nat.le_refl _) _
  have b2 : Below W1.heap.size W1 W2 := by rw [← hW2]; exact (Below.refl _ _).alloc (Nat.le_refl _) _
  have B2 : Hid (Below w.heap.size w W2) := b1.trans (b2.mono (by omega))
  have Q1 : Bkv W1 w.heap.size k1 (.slice a xs.length ca) := by rw [← hW1]; exact bkv_new w _ _
  have P2 : Hid (Bkv W2 w.heap.size k1 (.slice a xs.length ca)) := Q1.below b2
  have R2 : Hid (Bkv W2 (w.heap.size + 1) k2 (.slice b ys.length cb)) := by rw [← hW2, ← s1]; exact bkv_new W1 _ _
  have HS := hideP (same_rd _ _ xs ys W2 (hx.below B2.out) (hy.below B2.out))
  have p0 := P2.out.c0
  have p1 := P2.out.c1
  have r0 := R2.out.c0
  have r1 := R2.out.c1
  generalize decide (xs = ys) = sm at *
  generalize xs.length = l1 at *
  generalize ys.length = l2 at *
  clear hx hy b1 b2 Q1
  unfold blk
  by_cases hk : k1 = k2
  · have hd : (k1 == k2) = true := by rw [beq_iff_eq]; exact hk
    have e : (decide (k1 = k2) && sm) = sm := by rw [decide_eq_true hk]; rfl
    rw [e]
    have HK : Hid (k1 = k2) := hk
    clear e hk
    go_enter Try.func23, Try.ntmps23
    go_wp2_with fail
    refine HS.out.mono ?_
    rintro e w3 ⟨rfl, b3⟩
    have P3 := P2.out.below b3
    have R3 := R2.out.below b3
    have c0 := P3.c0
    have d0 := R3.c0
    have B3 : Hid (Below w.heap.size w w3) := B2.out.trans (b3.mono B2.out.size)
    clear p0 p1 r0 r1 P3 R3 b3
    go_wp2_with fail
    go_ret
    exact ⟨rfl, B3.out⟩
  · have hd : (k1 == k2) = false := by rw [beq_eq_false_iff_ne]; exact hk
    have e : (decide (k1 = k2) && sm) = false := by rw [decide_eq_false hk]; rfl
    rw [e]
    clear e
    go_enter Try.func23, Try.ntmps23
    go_wp2_with fail
    refine HS.out.mono ?_
    rintro e w3 ⟨rfl, b3⟩
    have P3 := P2.out.below b3
    have R3 := R2.out.below b3
    have c0 := P3.c0
    have d0 := R3.c0
    have B3 : Hid (Below w.heap.size w w3) := B2.out.trans (b3.mono B2.out.size)
    clear p0 p1 r0 r1 P3 R3 b3
    go_wp2_with fail
    go_ret
    exact ⟨rfl, B3.out⟩
end Go.Proofs.Ytgpaklifjonlkaa
