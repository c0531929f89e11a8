import Derived.Test.YtdicgaepggffbaaUH04
import Derived.Laws.CopyOwn
import Derived.StillTailTactics
import Derived.Test.YtdicgaepggffbaaUH03
import Derived.ArgAppend
/-
  A number laid into a sector, and read from there.
-/
namespace Go.Proofs.Ytdicgaepggffbaa
open Go.RowKit Pl
set_option linter.unusedVariables false
set_option linter.unusedSimpArgs false
set_option maxRecDepth 100000

theorem spliceU_snoc {xs ys : List Int} {a j : Nat} (y : Int) (hj : ys.length = j) (h : a + j < xs.length) : (splice xs a ys).set (a + j) y = splice xs a (ys ++ [y]) := by
  unfold splice
  have hl : (xs.take a).length = a := by rw [List.length_take]; omega
  rw [List.set_append_right _ _ (by omega), hl, show a + j - a = j by omega, List.set_append_right _ _ (by omega), hj, Nat.sub_self]
  rw [List.drop_eq_getElem_cons (show a + j < xs.length from h), List.set_cons_zero, List.length_append, hj, List.append_assoc]
  rfl
theorem spliceU_nil (xs : List Int) (a : Nat) : splice xs a [] = xs := by
  unfold splice
  simp
theorem spliceU_len {xs ys : List Int} {a : Nat} (h : a + ys.length ≤ xs.length) : (splice xs a ys).length = xs.length := by
  unfold splice
  simp only [List.length_append, List.length_take, List.length_drop]
  omega

theorem sh_emod (N j : Nat) : ((N : Int) / 2 ^ (8 * j)) % 256 = (N : Int) / 256 ^ j % 256 := by
  rw [Int.pow_mul]
  rfl

set_option maxHeartbeats 400000 in
theorem setU_any (g at_ k N : Nat) (xs : List Int) (w : World) (h : Fu w g xs) (hN : N < 9223372036854775807) (hk : k ≤ 4) (ha : at_ + k ≤ 256) :
    Calls Try.prog 54 #[.pointer (some ⟨g, 0, none⟩), .int .i64 (at_ : Int), .int .i64 (k : Int), .int .i64 (N : Int)] w fun e w' => e = .returned (.tuple #[]) ∧ Fu w' g (splice xs at_ (leN k (N : Int))) ∧ Tch (fun j => j = g) w w' := by
  have HF : Hid (Fu w g xs) := h
  have hgl : Hid (g < w.heap.size) := h.lt
  have HL : Hid (xs.length = 256) := h.2.1
  clear h
  go_enter Try.func54, Try.ntmps54
  go_wp2_with fail
  go_loopw [10] (fun i wr => ∃ j : Nat, j ≤ k ∧ i = .int .i64 j ∧ Hid (Fu wr g (splice xs at_ (leN j (N : Int)))) ∧ Hid (Tch (fun j => j = g) w wr)) (fun i _ => k - (intOf i).toNat)
  case atStart => exact ⟨0, Nat.zero_le _, rfl, by rw [show leN 0 (N : Int) = [] from rfl, spliceU_nil]; exact HF, Tch.refl _ _⟩
  case round =>
    clear HF
    obtain ⟨j, hj, rfl, F, T⟩ := hrel
    by_cases hlt : j < k
    · obtain ⟨y, hy⟩ : ∃ y : Nat, N / 2 ^ (8 * j) % 256 = y := ⟨_, rfl⟩
      have hy2 : y < 256 := by rw [← hy]; exact Nat.mod_lt _ (by decide)
      obtain ⟨m, hm⟩ : ∃ m, 8 * j = m := ⟨_, rfl⟩
      have hy1 : (N : Int) / 2 ^ m % 256 = (y : Int) := by
        rw [← hy, ← hm, Int.natCast_emod, Int.natCast_ediv, Int.natCast_pow]
        rfl
      have hst : (splice xs at_ (leN j (N : Int))).set (at_ + j) (y : Int) = splice xs at_ (leN (j + 1) (N : Int)) := by
        rw [spliceU_snoc _ (leN_len j _) (by rw [HL.out]; omega), leN_succ, ← sh_emod, hm, hy1]
      have hm1 : 8 * (j : Int) = (m : Int) := by omega
      have hm2 : (m : Int) ≤ 24 := by omega
      obtain ⟨p, hp⟩ : ∃ p, at_ + j = p := ⟨_, rfl⟩
      have hp1 : (at_ : Int) + (j : Int) = (p : Int) := by omega
      have hp2 : (p : Int) < 256 := by omega
      rw [hp] at hst
      have cp := F.out.cell (i := p) (by omega)
      have fp := F.out.fz p
      have F1 : Hid (Fu (wr.setCell ⟨g, p, none⟩ (.int .u8 (y : Int))) g (splice xs at_ (leN (j + 1) (N : Int)))) := by
        have := F.out.set p (y := (y : Int)) (by omega) (by omega)
        rw [hst] at this
        exact this
      have T1 : Hid (Tch (fun j => j = g) w (wr.setCell ⟨g, p, none⟩ (.int .u8 (y : Int)))) := Tch.setCell T.out (p := ⟨g, p, none⟩) (fun _ => rfl) _
      generalize (splice xs at_ (leN j (N : Int))).getD p 0 = z at cp
      have hjk : (j : Int) < (k : Int) := by omega
      clear F T hy hm hp hst
      have w1 : IntKind.i64.wrap (p : Int) = (p : Int) := by rw [IntKind.wrap_i64]; omega
      have w2 : IntKind.i64.wrap (m : Int) = (m : Int) := by rw [IntKind.wrap_i64]; omega
      go_wp2_with fail
      go_still_tail 11, (by kernel_rfl)
      go_wp2_with fail
      go_roundw
      case rel => exact ⟨j + 1, by omega, by go_num, F1, T1.out.drew⟩
      case measure => simp [intOf]; omega
    · have hnn : ¬ (j : Int) < (k : Int) := by omega
      have hjk : j = k := by omega
      rw [hjk] at F
      clear hjk
      go_wp2_with fail
      go_end0
      exact ⟨rfl, F.out, T.out⟩

theorem i64_or (a b : Nat) (ha : a < 4294967296) (hb : b < 4294967296) : Go.bits .or .i64 (a : Int) (b : Int) = ((a ||| b : Nat) : Int) := by
  have hx : a ||| b < 4294967296 := Nat.or_lt_two_pow (n := 32) ha hb
  show IntKind.i64.wrap ((BitVec.ofInt 64 (a : Int) ||| BitVec.ofInt 64 (b : Int)).toNat : Int) = _
  rw [BitVec.toNat_or, ofInt_u64 a (by omega), ofInt_u64 b (by omega), IntKind.wrap_i64]
  omega

theorem sl_succ {xs : List Int} {a j : Nat} (h : a + j < xs.length) : sl xs a (j + 1) = sl xs a j ++ [xs.getD (a + j) 0] := by
  unfold sl
  rw [List.take_succ_eq_append_getElem (by rw [List.length_drop]; omega), List.getElem_drop, List.getD_eq_getElem?_getD, List.getElem?_eq_getElem h]
  rfl
theorem sl_len {xs : List Int} {a k : Nat} (h : a + k ≤ xs.length) : (sl xs a k).length = k := by unfold sl; rw [List.length_take, List.length_drop]; omega
theorem sl_by {xs : List Int} (h : By xs) (a k : Nat) : By (sl xs a k) := (h.dropB a).take k
theorem vN_nat {xs : List Int} (h : By xs) : ∃ n : Nat, vN xs = (n : Int) ∧ n < 256 ^ xs.length := by
  have := vN_bnd xs h
  refine ⟨(vN xs).toNat, by omega, ?_⟩
  have e : ((256 ^ xs.length : Nat) : Int) = 256 ^ xs.length := by rw [Int.natCast_pow]; rfl
  omega

set_option maxHeartbeats 400000 in
theorem numberU_any (g at_ k : Nat) (xs : List Int) (w : World) (h : Fu w g xs) (hk : k ≤ 4) (ha : at_ + k ≤ 256) :
    Calls Try.prog 58 #[.pointer (some ⟨g, 0, none⟩), .int .i64 (at_ : Int), .int .i64 (k : Int)] w fun e w' => e = .returned (.int .i64 (vN (sl xs at_ k))) ∧ Below w.heap.size w w' := by
  have HF : Hid (Fu w g xs) := h
  have HL : Hid (xs.length = 256) := h.2.1
  have HB : Hid (By xs) := h.2.2
  clear h
  obtain ⟨R, hR⟩ : ∃ R, Hid (vN (sl xs at_ k) = R) := ⟨_, rfl⟩
  rw [hR.out]
  go_enter Try.func58, Try.ntmps58
  go_wp2_with fail
  go_loopw [7, 10] (fun vv i wr => ∃ (j X : Nat), j ≤ k ∧ i = .int .i64 j ∧ vv = .int .i64 (X : Int) ∧ X < 4294967296 ∧ Hid (vN (sl xs at_ j) = (X : Int) ∧ X < 256 ^ j) ∧ Hid (Below w.heap.size w wr)) (fun _ i _ => k - (intOf i).toNat)
  case atStart => exact ⟨0, 0, Nat.zero_le _, rfl, rfl, by decide, ⟨by simp [sl, vN], by decide⟩, Below.refl _ _⟩
  case round =>
    obtain ⟨j, X, hj, rfl, rfl, hX, HX, B⟩ := hrel
    by_cases hlt : j < k
    · obtain ⟨b, hb⟩ : ∃ b : Nat, Hid (xs.getD (at_ + j) 0 = (b : Int) ∧ b < 256) := by
        have := HB.out (at_ + j)
        exact ⟨(xs.getD (at_ + j) 0).toNat, by omega, by omega⟩
      have hb1 := hb.out.2
      obtain ⟨m, hm⟩ : ∃ m, 8 * j = m := ⟨_, rfl⟩
      have hm1 : 8 * (j : Int) = (m : Int) := by omega
      have hm2 : (m : Int) ≤ 24 := by omega
      obtain ⟨p, hp⟩ : ∃ p, at_ + j = p := ⟨_, rfl⟩
      have hp1 : (at_ : Int) + (j : Int) = (p : Int) := by omega
      have hp2 : (p : Int) < 256 := by omega
      have F : Fu wr g xs := HF.out.below B.out
      have cp : wr.cell? ⟨g, p, none⟩ = some (.int .u8 (b : Int)) := by rw [F.cell (by omega), ← hp, hb.out.1]
      have e256 : 256 ^ j = 2 ^ m := by rw [← hm, Nat.pow_mul]
      have hXm : X < 2 ^ m := by rw [← e256]; exact HX.out.2
      have hor : X ||| b * 2 ^ m = X + b * 2 ^ m := by
        rw [Nat.or_comm, Nat.mul_comm, ← Nat.two_pow_add_eq_or_of_lt hXm, Nat.add_comm]
      obtain ⟨Y, hY⟩ : ∃ Y, b * 2 ^ m = Y := ⟨_, rfl⟩
      have hY2 : X + Y < 256 ^ (j + 1) := by
        rw [← hY, Nat.pow_succ, e256]
        have : b * 2 ^ m ≤ 255 * 2 ^ m := Nat.mul_le_mul_right _ (by omega)
        omega
      have hpw : 256 ^ (j + 1) ≤ 256 ^ 4 := Nat.pow_le_pow_right (by decide) (by omega)
      have hY3 : X + Y < 4294967296 := by
        have : (256 : Nat) ^ 4 = 4294967296 := rfl
        omega
      have hY4 : (b : Int) * 2 ^ m = (Y : Int) := by rw [← hY, Int.natCast_mul, Int.natCast_pow]; rfl
      have ho := i64_or X Y hX (by omega)
      rw [← hY, hor, hY] at ho
      have HN : Hid (vN (sl xs at_ (j + 1)) = ((X + Y : Nat) : Int) ∧ X + Y < 256 ^ (j + 1)) := by
        refine ⟨?_, hY2⟩
        have h256 : (256 : Int) ^ j = ((2 ^ m : Nat) : Int) := by rw [← e256, Int.natCast_pow]; rfl
        rw [sl_succ (by rw [HL.out]; omega), vN_snoc, HX.out.1, sl_len (by rw [HL.out]; omega), hb.out.1, h256, ← hY, Int.natCast_add, Int.natCast_mul, Int.mul_comm]
      obtain ⟨Z, hZ⟩ : ∃ Z, X + Y = Z := ⟨_, rfl⟩
      rw [hZ] at ho HN hY3
      have hjk : (j : Int) < (k : Int) := by omega
      have hb2 : (b : Int) < 256 := by omega
      have hY5 : (Y : Int) < 4294967296 := by omega
      have w1 : IntKind.i64.wrap (p : Int) = (p : Int) := by rw [IntKind.wrap_i64]; omega
      have w2 : IntKind.i64.wrap (m : Int) = (m : Int) := by rw [IntKind.wrap_i64]; omega
      have w3 : IntKind.i64.wrap (Y : Int) = (Y : Int) := by rw [IntKind.wrap_i64]; omega
      clear HX hm hp F e256 hXm hor hY hY2 hpw hZ
      go_wp2_with fail
      go_roundw
      case rel => exact ⟨j + 1, Z, by omega, by go_num, rfl, hY3, HN, B⟩
      case measure => simp [intOf]; omega
    · have hnn : ¬ (j : Int) < (k : Int) := by omega
      have HE : Hid ((X : Int) = R) := by
        show _ = _
        rw [← hR.out, ← HX.out.1, show j = k by omega]
      clear HX
      go_wp2_with fail
      go_ret
      exact ⟨by rw [← HE.out]; rfl, B.out⟩
end Go.Proofs.Ytdicgaepggffbaa
/-
  A sector as a value, of bytes; and with its sum.
-/
namespace Go.Proofs.Ytdicgaepggffbaa
open Go.RowKit Pl
set_option linter.unusedVariables false
set_option linter.unusedSimpArgs false
set_option maxRecDepth 100000

theorem inf_u8U : (Try.prog.info? 5).map (·.size) = some 1 := by kernel_rfl
theorem bcsU_splice (L cs : List Int) (off : Nat) : splice (bcs L) off (bcs cs) = bcs (splice L off cs) := by
  unfold splice bcs
  simp only [List.map_append, List.map_take, List.map_drop, List.length_map]
/-- 'copy(d, s)' into a block of bytes. -/
theorem wpList_copyU (w : World) {ops : Array Oper} {rest : List Oper} {o : Oper} {a : Act} {Q : Exit → Act → World → Prop} (hgd : o.guard = none) (d s : Operand)
    (ho : o.op = .call { callee := .builtin .copy, args := #[d, s], argTypes := #[25, 25] }) (g off dLen dCap : Nat) (hd : a.eval d = .slice (some ⟨g, off, none⟩) dLen dCap)
    (cur : List Int) (t : TypeId) (hg : w.heap[g]? = some (.cells (bcs cur).toArray t (0, 0))) (v : Value) (xs : List Int) (hs : a.eval s = v) (hr : Rd .u8 w v xs) (hfit : off + min xs.length dLen ≤ cur.length)
    (B : Nat) (w0 : World) (hB : Below B w0 w) (hBg : B ≤ g)
    (h : ∀ w', Hid (w'.heap[g]? = some (.cells (bcs (splice cur off (xs.take dLen))).toArray t (0, 0))) → Hid (Below B w0 w') → wpList Try.prog ops Q rest (a.put o.dst (goInt (xs.take dLen).length)) w') : wpList Try.prog ops Q (o :: rest) a w := by
  obtain ⟨sp, cap, rfl, h1, h2, h3, h4⟩ := hr
  refine wpList_copy_splice hgd d s 25 25 ho 5 Try.underlying25 inf_u8U (some ⟨g, off, none⟩) sp dLen dCap xs.length cap hd hs g off (bcs cur) t hg (bcs (xs.take dLen)) ?_ ?_ ?_ (bcs_one _) B w0 hB hBg ?_
  · rw [bcs_len, List.length_take]; exact Nat.min_comm _ _
  · intro hp
    refine ⟨rfl, ?_⟩
    rw [bcs_len, List.length_take] at hp
    rcases h4 with rfl | ⟨b, o, rfl, hc⟩
    · simp at hp
    · refine ⟨_, rfl, fun j u hu => ?_⟩
      have hjl : j < (bcs (xs.take dLen)).length := (List.getElem?_eq_some_iff.1 hu).1
      rw [bcs_len, List.length_take] at hjl
      rw [Addr.add_lit, hc j (by omega)]
      rw [bcs, List.getElem?_map, List.getElem?_take, if_pos (by omega), List.getElem?_eq_getElem (by omega)] at hu
      simp only [Option.map_some, Option.some.injEq] at hu
      rw [← hu, List.getD_eq_getElem?_getD, List.getElem?_eq_getElem (by omega)]
      rfl
  · rw [bcs_len, bcs_len, List.length_take]; omega
  · intro w' hh hb'
    have hh' := hh.out
    rw [bcsU_splice] at hh'
    rw [bcs_len]
    exact h w' hh' hb'
theorem splice_next {xs A B : List Int} {a b : Nat} (hb : b = a + A.length) (h : b + B.length ≤ xs.length) : splice (splice xs a A) b B = splice xs a (A ++ B) := by
  subst hb
  unfold splice
  have hl : (xs.take a).length = a := by rw [List.length_take]; omega
  have e1 : (xs.take a ++ (A ++ xs.drop (a + A.length))).take (a + A.length) = xs.take a ++ A := by
    rw [← List.append_assoc, List.take_append_of_le_length (by rw [List.length_append, hl]; exact Nat.le_refl _), List.take_of_length_le (by rw [List.length_append, hl]; exact Nat.le_refl _)]
  have e2 : (xs.take a ++ (A ++ xs.drop (a + A.length))).drop (a + A.length + B.length) = xs.drop (a + (A ++ B).length) := by
    rw [← List.append_assoc, List.drop_append, List.drop_of_length_le (by rw [List.length_append, hl]; omega), List.nil_append, List.length_append, hl, List.drop_drop, List.length_append]
    congr 1
    omega
  rw [e1, e2]
  simp only [List.append_assoc]
theorem splice_same {xs A : List Int} {a b : Nat} (hb : b = a + A.length) (h : b < xs.length) (hy : xs.getD b 0 = 0) : splice xs a (A ++ [0]) = splice xs a A := by
  subst hb
  unfold splice
  rw [List.getD_eq_getElem?_getD, List.getElem?_eq_getElem h] at hy
  rw [List.drop_eq_getElem_cons h, List.length_append, List.append_assoc]
  simp only [Option.getD_some] at hy
  rw [hy]
  rfl
theorem splice_get {xs A : List Int} {a b : Nat} (h : a + A.length ≤ xs.length) (hb : a + A.length ≤ b) : (splice xs a A).getD b 0 = xs.getD b 0 := by
  unfold splice
  rw [List.getD_eq_getElem?_getD, ← List.append_assoc, List.getElem?_append_right (by rw [List.length_append, List.length_take]; omega), List.length_append, List.length_take, List.getElem?_drop, ← List.getD_eq_getElem?_getD]
  congr 1
  omega
theorem zz_drop (m : Nat) : zz.drop m = List.replicate (256 - m) 0 := by unfold zz; rw [List.drop_replicate]
theorem spliceU_zz {xs : List Int} (h : xs.length = 256) : splice zz 0 (xs.take 256) = xs := by
  unfold splice
  rw [List.take_zero, List.nil_append, List.take_of_length_le (by omega), List.drop_of_length_le (by rw [zz_len]; omega), List.append_nil]
theorem le4_leN (c : Nat) : leN 4 (c : Int) = le4 c := by
  unfold leN le4
  simp [List.range_succ]
theorem crc_ltU (xs : List Int) : crc xs < 4294967296 := by unfold crc; omega
theorem smd_splice {xs : List Int} (h : xs.length = 256) : splice xs 252 (leN 4 (crc (xs.take 252) : Int)) = smd xs := by
  unfold splice smd
  rw [leN_len, le4_leN, List.drop_of_length_le (by omega), List.append_nil]

set_option maxHeartbeats 400000 in
theorem ofU_any (v : Value) (xs : List Int) (w : World) (hr : Rd .u8 w v xs) (hb : By xs) (hl : xs.length = 256) :
    Calls Try.prog 40 #[v] w fun e w' => e = .returned (.agg (bcs xs).toArray) ∧ Below w.heap.size w w' := by
  obtain ⟨a, cap, rfl, h1, h2, _⟩ := id hr
  obtain ⟨hv, hi⟩ := zero_of_info info_frmU
  have HSL := slice_frmU
  have HI : Hid ((Try.prog.info? 62).map (·.size) = some 256) := hi
  have HR : Hid (Rd .u8 w (.slice a 256 cap) xs) := by rw [← hl]; exact hr
  have HY : Hid (By xs) := hb
  have HL : Hid (xs.length = 256) := hl
  rw [hl] at h1 ⊢
  obtain ⟨W1, hW1⟩ : ∃ W1, w.alloc (.cells (bcs zz).toArray 62) = W1 := ⟨_, rfl⟩
  obtain ⟨W2, hW2⟩ : ∃ W2, W1.alloc (.cells (bcs zz).toArray 62) = W2 := ⟨_, rfl⟩
  have s1 : W1.heap.size = w.heap.size + 1 := by rw [← hW1]; simp
  have s2 : W2.heap.size = w.heap.size + 1 + 1 := by rw [← hW2]; simp [s1]
  have b1 : Below w.heap.size w W1 := by rw [← hW1]; exact (Below.refl _ _).alloc (Nat.le_refl _) _
  have b2 : Below W1.heap.size W1 W2 := by rw [← hW2]; exact (Below.refl _ _).alloc (Nat.le_refl _) _
  have F1 : Fu W1 w.heap.size zz := by rw [← hW1]; exact fv_newU w zz_len zz_by
  have FR : Hid (Fu W2 w.heap.size zz) := F1.below b2
  have F2 : Hid (Fu W2 (w.heap.size + 1) zz) := by rw [← hW2, ← s1]; exact fv_newU W1 zz_len zz_by
  have M2 : Hid (W2.heap[w.heap.size + 1]? = some (.cells (bcs zz).toArray 62 (0, 0))) := F2.out.1
  have B2 : Hid (Below w.heap.size w W2) := b1.trans (b2.mono (by omega))
  have R2 : Hid (Rd .u8 W2 (.slice a 256 cap) xs) := HR.out.below B2.out
  have HFT : Hid (0 + min xs.length 256 ≤ zz.length) := by show _ ≤ _; rw [zz_len]; omega
  have BX : Hid (∀ W, Below (w.heap.size + 1) W W) := fun W => Below.refl _ _
  obtain ⟨Z, hZ⟩ : ∃ Z, Hid ((bcs zz).toArray = Z) := ⟨_, rfl⟩
  rw [hZ.out] at hv hW1 hW2
  clear F1 b1 b2 hr hb hl h2 hi s2
  go_enter Try.func40, Try.ntmps40
  go_wp2_with (with_reducible (show wpList _ _ _ (Oper.mk _ (Op.call _) _ _ _ _ :: _) _ _); refine wpList_copyU _ rfl (.tmp 4) (.tmp 5) rfl (w.heap.size + 1) 0 256 256 ?h3 zz _ M2.out _ xs ?h5 R2.out HFT.out (w.heap.size + 1) W2 (BX.out W2) (Nat.le_refl _) ?_; (case h3 => kernel_rfl); (case h5 => kernel_rfl))
  intro w3 M3 N3
  rw [spliceU_zz HL.out] at M3
  obtain ⟨g, hg⟩ : ∃ g, Hid (w.heap.size = g) := ⟨_, rfl⟩
  rw [hg.out] at FR M3 N3 B2 ⊢
  have F3 : Hid (Fu w3 (g + 1) xs) := ⟨M3.out, HL.out, HY.out⟩
  have R3 : Hid (Fu w3 g zz) := ⟨by rw [N3.out.block g (by omega)]; exact FR.out.1, FR.out.2⟩
  have B3 : Hid (Below g w w3) := B2.out.trans (N3.out.mono (by omega))
  have HRG : Hid (w3.rangeAt (g + 1) 0 (bcs xs)) := F3.out.range
  have HPL : Hid ((bcs xs).length = 256) := by show _ = _; rw [bcs_len]; exact HL.out
  have HT : Hid (w3.there g 0 256) := R3.out.there
  have HSZ : Hid ((bcs xs).toArray.size = 256) := bcs_sizeU HL.out
  have HON : Hid ((bcs xs).toArray.all (·.oneCell') = true) := bcs_all _
  have HP : Hid (Fu (w3.setCells g 0 (bcs xs)) g xs) := R3.out.put HL.out HY.out
  have HBB : Hid (Below g w (w3.setCells g 0 (bcs xs))) := B3.out.trans ((setCells_tchD g _ 0 w3).below (by have := R3.out.lt; omega) (fun k e => by omega))
  generalize goInt (List.take 256 xs).length = gi
  clear M3 N3 FR F2 M2 B2 R2 hW1 hW2 s1 HFT F3 R3 B3 BX
  go_wp2_with (first | (with_reducible (show wpList _ _ _ (Oper.mk _ (Op.load _ _) _ _ _ _ :: _) _ _); refine wpList_load_mid rfl 62 (.tmp 3) rfl (g + 1) 0 rfl (bcs xs) _ HRG.out Try.underlying62 rfl (by rw [HPL.out]; exact HI.out) ?_) | (with_reducible (show wpList _ _ _ (Oper.mk _ (Op.store _ _ _) _ _ _ _ :: _) _ _); refine wpList_store_mid rfl 62 (.tmp 2) (.tmp 7) rfl g 0 (bcs xs).toArray rfl rfl (by rw [HSZ.out]; exact HT.out) (by rw [HSZ.out]; exact HI.out) HON.out ?_))
  refine bodyPost_ret (v := .agg (bcs xs).toArray) ?_ rfl ⟨rfl, ?_⟩
  · exact results_atU (p := 2) (ty := 62) rfl _ _ _ g _ rfl (by simpa using HP.out.load)
  · rw [hg.out]; simpa using HBB.out

set_option maxHeartbeats 400000 in
theorem summedU_any (xs : List Int) (w : World) (hl : xs.length = 256) (hb : By xs) :
    Calls Try.prog 56 #[.agg (bcs xs).toArray] w fun e w' => e = .returned (.agg (bcs (smd xs)).toArray) ∧ Below w.heap.size w w' := by
  obtain ⟨hv, hi⟩ := zero_of_info info_frmU
  have HSH := slice_frm_hU
  have HI : Hid ((Try.prog.info? 62).map (·.size) = some 256) := hi
  have HL : Hid (xs.length = 256) := hl
  have HB : Hid (By xs) := hb
  obtain ⟨W1, hW1⟩ : ∃ W1, w.alloc (.cells (bcs xs).toArray 62) = W1 := ⟨_, rfl⟩
  obtain ⟨W2, hW2⟩ : ∃ W2, W1.alloc (.cells (bcs zz).toArray 62) = W2 := ⟨_, rfl⟩
  have F1 : Fu W1 w.heap.size xs := by rw [← hW1]; exact fv_newU w hl hb
  have s1 : W1.heap.size = w.heap.size + 1 := by rw [← hW1]; simp
  have s2 : W2.heap.size = w.heap.size + 2 := by rw [← hW2]; simp [s1]
  have FA : Hid (Fu W2 w.heap.size xs) := by rw [← hW2]; exact F1.below ((Below.refl _ _).alloc (Nat.le_refl _) _)
  have FB : Hid (Fu W2 (w.heap.size + 1) zz) := by rw [← hW2, ← s1]; exact fv_newU W1 zz_len zz_by
  have B2 : Hid (Below w.heap.size w W2) := by
    rw [← hW2, ← hW1]
    exact ((Below.refl _ _).alloc (Nat.le_refl _) _).alloc (by simp) _
  obtain ⟨Z, hZ⟩ : ∃ Z, Hid ((bcs zz).toArray = Z) := ⟨_, rfl⟩
  obtain ⟨X, hX⟩ : ∃ X, Hid ((bcs xs).toArray = X) := ⟨_, rfl⟩
  rw [hZ.out] at hv hW2
  rw [hX.out] at hW1 ⊢
  have HR : Hid (Rd .u8 W2 (.slice (some ⟨w.heap.size, 0, none⟩) 252 256) (xs.take 252)) := FA.out.rdTo 252 (by decide)
  have HC : Hid (crc (xs.take 252) < 4294967296) := crc_ltU _
  obtain ⟨g, hg⟩ : ∃ g, Hid (w.heap.size = g) := ⟨_, rfl⟩
  have HW3 : Hid ((w.alloc (.cells X 62)).alloc (.cells Z 62) = W2) := by show _ = _; rw [hW1]; exact hW2
  clear hi hl hb F1 s1 s2 hW1 hW2
  go_enter Try.func56, Try.ntmps56
  go_wp2_with fail
  rw [HW3.out]
  rw [hg.out] at HR FA FB B2 ⊢
  refine (crc_any _ _ _ HR.out (HB.out.take 252)).mono ?_
  rintro e w3 ⟨rfl, rfl⟩
  have HE := hideP (smd_splice HL.out)
  obtain ⟨s, hs⟩ : ∃ s, crc (xs.take 252) = s := ⟨_, rfl⟩
  rw [hs] at HC HE ⊢
  clear hs
  go_wp2_with fail
  refine (setU_any g 252 4 s xs _ FA.out (by have := HC.out; omega) (by decide) (by decide)).mono ?_
  rintro e w4 ⟨rfl, f4, t4⟩
  rw [HE.out] at f4
  have F4 : Hid (Fu w4 g (smd xs)) := f4
  have R4 : Hid (Fu w4 (g + 1) zz) := FB.out.tch t4 (by omega)
  have B4 : Hid (Below g w w4) := B2.out.trans (t4.below (Nat.le_of_lt FA.out.lt) (fun k e => by rw [e]; exact Nat.le_refl _))
  have HSL : Hid ((smd xs).length = 256) := smd_len HL.out
  have HSB : Hid (By (smd xs)) := smd_by HB.out
  have HRG : Hid (w4.rangeAt g 0 (bcs (smd xs))) := F4.out.range
  generalize hys : smd xs = ys at *
  have HYS : Hid (smd xs = ys) := hys
  clear hys
  have HPL : Hid ((bcs ys).length = 256) := by show _ = _; rw [bcs_len]; exact HSL.out
  have HT : Hid (w4.there (g + 1) 0 256) := R4.out.there
  have HSZ : Hid ((bcs ys).toArray.size = 256) := bcs_sizeU HSL.out
  have HON : Hid ((bcs ys).toArray.all (·.oneCell') = true) := bcs_all _
  have HP : Hid (Fu (w4.setCells (g + 1) 0 (bcs ys)) (g + 1) ys) := R4.out.put HSL.out HSB.out
  have HBB : Hid (Below g w (w4.setCells (g + 1) 0 (bcs ys))) := B4.out.trans ((setCells_tchD (g + 1) _ 0 w4).below (by have := R4.out.lt; omega) (fun k e => by omega))
  clear f4 t4 HR FA FB B2 HW3 R4 B4 HE
  go_wp2_with (first | (with_reducible (show wpList _ _ _ (Oper.mk _ (Op.load _ _) _ _ _ _ :: _) _ _); refine wpList_load_mid rfl 62 (.tmp 1) rfl g 0 rfl (bcs ys) _ HRG.out Try.underlying62 rfl (by rw [HPL.out]; exact HI.out) ?_) | (with_reducible (show wpList _ _ _ (Oper.mk _ (Op.store _ _ _) _ _ _ _ :: _) _ _); refine wpList_store_mid rfl 62 (.tmp 2) (.tmp 6) rfl (g + 1) 0 (bcs ys).toArray rfl rfl (by rw [HSZ.out]; exact HT.out) (by rw [HSZ.out]; exact HI.out) HON.out ?_))
  refine bodyPost_ret (v := .agg (bcs ys).toArray) ?_ rfl ⟨by rw [HYS.out], ?_⟩
  · exact results_atU (p := 2) (ty := 62) rfl _ _ _ (g + 1) _ rfl (by simpa using HP.out.load)
  · rw [hg.out]; simpa using HBB.out
end Go.Proofs.Ytdicgaepggffbaa
/-
  The document's number, put and read; two superblocks compared.
-/
namespace Go.Proofs.Ytdicgaepggffbaa
open Go.RowKit Pl
set_option linter.unusedVariables false
set_option linter.unusedSimpArgs false
set_option maxRecDepth 100000

/-- A full row that can be read. -/
def Ful (w : World) (v : Value) (xs : List Int) : Prop := ∃ b, v = .slice (some ⟨b, 0, none⟩) xs.length xs.length ∧ ∀ i, i < xs.length → w.cell? ⟨b, i, none⟩ = some (.int .u8 (xs.getD i 0))
def Ow2 (w : World) (v : Value) (xs : List Int) : Prop := Owns .u8 5 w v xs ∨ Ful w v xs
theorem owns_base {w : World} {base : Nat} {e : TypeId} {size n : Nat} {v : Value} {xs : List Value} (h : w.ownsRow base e size v n xs) : w.ownsRow 0 e size v n xs := by
  refine ⟨h.1, ?_⟩
  rcases h.2 with h | ⟨g, cap, cur, a, _, r⟩
  · exact .inl h
  · exact .inr ⟨g, cap, cur, a, Nat.zero_le _, r⟩
/-- 'append(v, x)' onto either. -/
theorem wpList_push2 (w : World) {ops : Array Oper} {rest : List Oper} {o : Oper} {a : Act} {Q : Exit → Act → World → Prop} (hgd : o.guard = none) (s x : Operand)
    (ho : o.op = .call { callee := .builtin .append, args := #[s, x], argTypes := #[25, 25] })
    (v : Value) (xs : List Int) (hs : a.eval s = v) (hown : Ow2 w v xs) (y : Int) (hx : a.eval x = .slice (some ⟨w.heap.size, 0, none⟩) 1 1) (hl : xs.length ≤ 100000)
    (h : ∀ v' w', Owns .u8 5 w' v' (xs ++ [y]) → Grew w w' v v' → wpList Try.prog ops Q rest (a.put o.dst v') w') : wpList Try.prog ops Q (o :: rest) a (w.alloc (.cells #[.int .u8 y] 5)) := by
  rcases hown with hown | ⟨b, rfl, hc⟩
  · exact wpList_push w hgd s x 25 ho 5 .u8 1 elem8 v xs hs hown y hx (by omega) (by omega) h
  · obtain ⟨ht, i, hi, hz, h1, hb⟩ := elem8
    refine wpList_append_grows (w.alloc (.cells #[.int .u8 y] 5)) hgd s x 25 ho 5 i (.int .u8 0) 1 1 ht hi hz h1 hb rfl (by decide) (some ⟨b, 0, none⟩) xs.length xs.length (xs.map (Value.int .u8)) hs (fun e => by cases e) (by simp) (fun p hp j u hj => ?_)
      ⟨w.heap.size, 0, none⟩ 1 1 [.int .u8 y] hx rfl (fun j u hj => ?_) (fun u hu => by simp at hu; subst hu; rfl) (by omega) (by unfold maxLen; omega) (by omega) ?_
    · cases hp
      have hjl : j < xs.length := by have := (List.getElem?_eq_some_iff.1 hj).1; simpa using this
      have h0 := hc j hjl
      have hlt := World.block_lt_of_cell? w ⟨b, j, none⟩ h0
      have hBe : Below w.heap.size w (w.alloc (.cells #[.int .u8 y] 5)) := (Below.refl _ _).alloc (Nat.le_refl _) _
      rw [Addr.add_lit, Nat.zero_add, hBe.cell (p := ⟨b, j, none⟩) hlt, h0]
      rw [List.getElem?_map, List.getElem?_eq_getElem hjl] at hj
      rw [List.getD_eq_getElem?_getD, List.getElem?_eq_getElem hjl]
      exact hj
    · match j, hj with
      | 0, hj => simp at hj; subst hj; simp [Addr.add]
    · intro v' w' h2 h3
      refine h v' w' (by unfold Owns; simpa using owns_base h2) ⟨Tch.grown ((Tch.refl _ w).alloc _) h3 (fun _ _ e => by cases e), fun k hk => .inr ?_⟩
      have h4 := (h2.lt k hk).1
      have h5 : (w.alloc (.cells #[.int .u8 y] 5)).heap.size = w.heap.size + 1 := by simp
      omega

set_option maxHeartbeats 400000 in
theorem refNumber_any (v : Value) (xs : List Int) (N k : Nat) (w : World) (ho : Ow2 w v xs) (hN : N < 9223372036854775807) (hk1 : 1 ≤ k) (hk : k ≤ 4) (hx : xs.length ≤ 1000) :
    Calls Try.prog 36 #[v, .int .i64 (N : Int), .int .i64 (k : Int)] w fun e w' => ∃ v', e = .returned v' ∧ Owns .u8 5 w' v' (xs ++ leN k (N : Int)) ∧ Grew w w' v v' := by
  have HO : Hid (Ow2 w v xs) := ho
  clear ho
  go_enter Try.func36, Try.ntmps36
  go_wp2_with fail
  go_loopw [0, 1, 7] (fun ov nv i wr => ∃ (j Y : Nat) (v0 : Value), j ≤ k ∧ v0 = ov ∧ nv = .int .i64 (Y : Int) ∧ i = .int .i64 j ∧ Y < 9223372036854775807 ∧ Hid (N / 256 ^ j = Y) ∧ Hid (Ow2 wr v0 (xs ++ leN j (N : Int)) ∧ (0 < j → Owns .u8 5 wr v0 (xs ++ leN j (N : Int)))) ∧ Hid (Grew w wr v v0)) (fun _ _ i _ => k - (intOf i).toNat)
  case atStart => exact ⟨0, N, v, Nat.zero_le _, rfl, rfl, rfl, hN, by rw [Nat.pow_zero, Nat.div_one]; rfl, ⟨by rw [show leN 0 (N : Int) = [] from rfl, List.append_nil]; exact HO.out, fun e => by omega⟩, Grew.refl _ _⟩
  case round =>
    clear HO
    obtain ⟨j, Y, v0, hj, rfl, rfl, rfl, hY, HY, O, G⟩ := hrel
    by_cases hlt : j < k
    · have hjk : (j : Int) < (k : Int) := by omega
      obtain ⟨b, hb⟩ : ∃ b, Y % 256 = b := ⟨_, rfl⟩
      obtain ⟨Z, hZ⟩ : ∃ Z, Y / 256 = Z := ⟨_, rfl⟩
      have t1 : (Y : Int).tmod 256 = (b : Int) := by rw [Int.tmod_eq_emod_of_nonneg (by omega)]; omega
      have t2 : (Y : Int).tdiv 256 = (Z : Int) := by rw [Int.tdiv_eq_ediv_of_nonneg (by omega)]; omega
      have hb2 : (b : Int) < 256 := by omega
      have hZ2 : Z < 9223372036854775807 := by omega
      have HLN : Hid ((xs ++ leN j (N : Int)).length ≤ 1004) := by show _ ≤ _; rw [List.length_append, leN_len]; omega
      have HE : Hid (xs ++ (leN j (N : Int) ++ [(b : Int)]) = xs ++ leN (j + 1) (N : Int)) := by
        show _ = _
        have e : (N : Int) / 256 ^ j % 256 = (b : Int) := by
          rw [← hb, ← HY.out, Int.natCast_emod, Int.natCast_ediv, Int.natCast_pow]
          rfl
        rw [leN_succ, e]
      have OX : Hid (Ow2 wr v0 (xs ++ leN j (N : Int))) := O.out.1
      have HZ : Hid (N / 256 ^ (j + 1) = Z) := by show _ = _; rw [Nat.pow_succ, ← Nat.div_div_eq_div_mul, HY.out, hZ]
      clear hb hZ HY
      go_wp2_with (at_builtin; refine wpList_push2 _ rfl (.tmp 13) (.tmp 17) rfl _ (xs ++ leN j (N : Int)) rfl OX.out (b : Int) rfl (by have := HLN.out; omega) ?_)
      intro v2 w2 o2 g2
      rw [HE.out] at o2
      have O2 : Hid (Ow2 w2 v2 (xs ++ leN (j + 1) (N : Int)) ∧ (0 < j + 1 → Owns .u8 5 w2 v2 (xs ++ leN (j + 1) (N : Int)))) := ⟨.inl o2, fun _ => o2⟩
      have G2 : Hid (Grew w w2 v v2) := G.out.trans g2
      clear o2 g2 O OX G HE HLN
      go_wp2_with fail
      go_roundw
      case rel => exact ⟨j + 1, Z, _, by omega, rfl, rfl, by go_num, hZ2, HZ, O2, G2⟩
      case measure => simp [intOf]; omega
    · have hjk : ¬ (j : Int) < (k : Int) := by omega
      have hjk2 : j = k := by omega
      rw [hjk2] at O
      clear hjk2
      go_wp2_with fail
      go_ret
      exact ⟨_, rfl, O.out.2 (by omega), G.out⟩

theorem vN_cons_sl {xs : List Int} {i : Nat} (h : i < xs.length) : vN (xs.drop i) = xs.getD i 0 + 256 * vN (xs.drop (i + 1)) := by
  rw [List.drop_eq_getElem_cons h, List.getD_eq_getElem?_getD, List.getElem?_eq_getElem h]
  rfl

set_option maxHeartbeats 400000 in
theorem refValue_any (v : Value) (xs : List Int) (w : World) (hr : Rd .u8 w v xs) (hb : By xs) (hx : xs.length ≤ 4) :
    Calls Try.prog 42 #[v] w fun e w' => e = .returned (.int .i64 (vN xs)) ∧ w' = w := by
  obtain ⟨a, cap, rfl, _, _, _, hcc⟩ := id hr
  have HC : Hid (xs = [] ∨ ∃ b o, a = some ⟨b, o, none⟩ ∧ ∀ i, i < xs.length → w.cell? ⟨b, o + i, none⟩ = some (.int .u8 (xs.getD i 0))) := hcc
  have HB : Hid (By xs) := hb
  obtain ⟨R, hR⟩ : ∃ R, Hid (vN xs = R) := ⟨_, rfl⟩
  rw [hR.out]
  obtain ⟨l, hl⟩ : ∃ l, Hid (xs.length = l) := ⟨_, rfl⟩
  rw [hl.out] at hx HC ⊢
  clear hr hb hcc
  go_enter Try.func42, Try.ntmps42
  go_wp2_with fail
  go_loopw [3, 4] (fun nv iv wr => ∃ (k Y : Nat) (i : Int), k ≤ l ∧ i = (k : Int) - 1 ∧ iv = .int .i64 i ∧ nv = .int .i64 (Y : Int) ∧ Y < 4294967296 ∧ Hid (vN (xs.drop k) = (Y : Int) ∧ Y < 256 ^ (l - k)) ∧ Hid (wr = w)) (fun _ iv _ => (intOf iv + 1).toNat)
  case atStart => exact ⟨l, 0, (l : Int) - 1, Nat.le_refl _, rfl, by first | rfl | go_num, rfl, by decide, ⟨by rw [List.drop_of_length_le (by rw [hl.out]; exact Nat.le_refl _)]; rfl, by simp⟩, rfl⟩
  case round =>
    obtain ⟨k, Y, i, hk, hi, rfl, rfl, hY, HY, B⟩ := hrel
    by_cases h0 : 0 < k
    · obtain ⟨j, rfl⟩ : ∃ j, k = j + 1 := ⟨k - 1, by omega⟩
      obtain rfl : i = (j : Int) := by omega
      have hjl : j < xs.length := by rw [hl.out]; omega
      obtain ⟨ab, ao, ha, hc⟩ : ∃ b o, a = some ⟨b, o, none⟩ ∧ ∀ i, i < l → w.cell? ⟨b, o + i, none⟩ = some (.int .u8 (xs.getD i 0)) := by
        rcases HC.out with e | h
        · rw [e] at hjl; simp at hjl
        · exact h
      subst ha
      obtain ⟨b, hb⟩ : ∃ b : Nat, Hid (xs.getD j 0 = (b : Int) ∧ b < 256) := by
        have := HB.out j
        exact ⟨(xs.getD j 0).toNat, by omega, by omega⟩
      have hb1 := hb.out.2
      have cx : wr.cell? ⟨ab, ao + j, none⟩ = some (.int .u8 (b : Int)) := by
        have h0 := hc j (by omega)
        rw [B.out, h0, hb.out.1]
      have hjl2 : (j : Int) < (l : Int) := by omega
      obtain ⟨Z, hZ⟩ : ∃ Z, 256 * Y + b = Z := ⟨_, rfl⟩
      have hZ1 : 256 * (Y : Int) + (b : Int) = (Z : Int) := by omega
      have hZ2 : Z < 256 ^ (l - j) := by
        have := HY.out.2
        rw [show l - j = (l - (j + 1)) + 1 by omega, Nat.pow_succ]
        omega
      have hZ3 : 256 ^ (l - j) ≤ 256 ^ 4 := Nat.pow_le_pow_right (by decide) (by omega)
      have hZ4 : Z < 4294967296 := by
        have : (256 : Nat) ^ 4 = 4294967296 := rfl
        omega
      have HZ : Hid (vN (xs.drop j) = (Z : Int) ∧ Z < 256 ^ (l - j)) := by
        refine ⟨?_, hZ2⟩
        rw [vN_cons_sl hjl, HY.out.1, hb.out.1]
        omega
      clear hc HY hi hZ hZ2 hZ3 hjl
      have hYb : (Y : Int) < 4294967296 := by omega
      obtain ⟨Y2, hY2⟩ : ∃ Y2, 256 * Y = Y2 := ⟨_, rfl⟩
      have hY3 : 256 * (Y : Int) = (Y2 : Int) := by omega
      have hY4 : (Y2 : Int) + (b : Int) = (Z : Int) := by omega
      have hY5 : (Y2 : Int) < 1099511627776 := by omega
      clear hY2
      go_wp2_with fail
      go_roundw
      case rel => exact ⟨j, Z, (j : Int) - 1, by omega, rfl, by first | rfl | go_num, by first | rfl | go_num, hZ4, HZ, B⟩
      case measure => simp [intOf]
    · have hk0 : k = 0 := by omega
      have hi2 : i = -1 := by omega
      subst hi2
      have HE : Hid ((Y : Int) = R) := by
        show _ = _
        rw [← hR.out, ← HY.out.1, hk0, List.drop_zero]
      clear HY hi hk0
      go_wp2_with fail
      go_ret
      exact ⟨by rw [← HE.out]; rfl, B.out⟩
end Go.Proofs.Ytdicgaepggffbaa
