import Derived.Test.YtaacidgihhcpkaaYX06
import Derived.Laws.CopyOwn
import Derived.StillTailTactics
import Derived.Test.YtaacidgihhcpkaaYX03
import Derived.Deep.RegionLaw
/-
  A number laid into a sector, and read from there.
-/
namespace Go.Proofs.Ytaacidgihhcpkaa
open Go.RowKit Pl
set_option linter.unusedVariables false
set_option linter.unusedSimpArgs false
set_option maxRecDepth 100000

theorem spliceU_snoc {xs ys : List Int} {a j : Nat} (y : Int) (hj : ys.length = j) (h : a + j < xs.length) : (splice xs a ys).set (a + j) y = splice xs a (ys ++ [y]) := by
  unfold splice
  have hl : (xs.take a).length = a := by rw [List.length_take]; omega
  rw [List.set_append_right _ _ (by omega), hl, show a + j - a = j by omega, List.set_append_right _ _ (by omega), hj, Nat.sub_self]
  rw [List.drop_eq_getElem_cons (show a + j < xs.length from h), List.set_cons_zero, List.length_append, hj, List.append_assoc]
  rfl
theorem spliceU_nil (xs : List Int) (a : Nat) : splice xs a [] = xs := by
  unfold splice
  simp
theorem spliceU_len {xs ys : List Int} {a : Nat} (h : a + ys.length ≤ xs.length) : (splice xs a ys).length = xs.length := by
  unfold splice
  simp only [List.length_append, List.length_take, List.length_drop]
  omega

theorem sh_emod (N j : Nat) : ((N : Int) / 2 ^ (8 * j)) % 256 = (N : Int) / 256 ^ j % 256 := by
  rw [Int.pow_mul]
  rfl

set_option maxHeartbeats 400000 in
theorem setU_any (g at_ k N : Nat) (xs : List Int) (w : World) (h : Fu w g xs) (hN : N < 9223372036854775807) (hk : k ≤ 4) (ha : at_ + k ≤ 256) :
    Calls Try.prog 50 #[.pointer (some ⟨g, 0, none⟩), .int .i64 (at_ : Int), .int .i64 (k : Int), .int .i64 (N : Int)] w fun e w' => e = .returned (.tuple #[]) ∧ Fu w' g (splice xs at_ (leN k (N : Int))) ∧ Tch (fun j => j = g) w w' := by
  have HF : Hid (Fu w g xs) := h
  have hgl : Hid (g < w.heap.size) := h.lt
  have HL : Hid (xs.length = 256) := h.2.1
  clear h
  go_enter Try.func50, Try.ntmps50
  go_wp2_with fail
  go_loopw [10] (fun i wr => ∃ j : Nat, j ≤ k ∧ i = .int .i64 j ∧ Hid (Fu wr g (splice xs at_ (leN j (N : Int)))) ∧ Hid (Tch (fun j => j = g) w wr)) (fun i _ => k - (intOf i).toNat)
  case atStart => exact ⟨0, Nat.zero_le _, rfl, by rw [show leN 0 (N : Int) = [] from rfl, spliceU_nil]; exact HF, Tch.refl _ _⟩
  case round =>
    clear HF
    obtain ⟨j, hj, rfl, F, T⟩ := hrel
    by_cases hlt : j < k
    · obtain ⟨y, hy⟩ : ∃ y : Nat, N / 2 ^ (8 * j) % 256 = y := ⟨_, rfl⟩
      have hy2 : y < 256 := by rw [← hy]; exact Nat.mod_lt _ (by decide)
      obtain ⟨m, hm⟩ : ∃ m, 8 * j = m := ⟨_, rfl⟩
      have hy1 : (N : Int) / 2 ^ m % 256 = (y : Int) := by
        rw [← hy, ← hm, Int.natCast_emod, Int.natCast_ediv, Int.natCast_pow]
        rfl
      have hst : (splice xs at_ (leN j (N : Int))).set (at_ + j) (y : Int) = splice xs at_ (leN (j + 1) (N : Int)) := by
        rw [spliceU_snoc _ (leN_len j _) (by rw [HL.out]; omega), leN_succ, ← sh_emod, hm, hy1]
      have hm1 : 8 * (j : Int) = (m : Int) := by omega
      have hm2 : (m : Int) ≤ 24 := by omega
      obtain ⟨p, hp⟩ : ∃ p, at_ + j = p := ⟨_, rfl⟩
      have hp1 : (at_ : Int) + (j : Int) = (p : Int) := by omega
      have hp2 : (p : Int) < 256 := by omega
      rw [hp] at hst
      have cp := F.out.cell (i := p) (by omega)
      have fp := F.out.fz p
      have F1 : Hid (Fu (wr.setCell ⟨g, p, none⟩ (.int .u8 (y : Int))) g (splice xs at_ (leN (j + 1) (N : Int)))) := by
        have := F.out.set p (y := (y : Int)) (by omega) (by omega)
        rw [hst] at this
        exact this
      have T1 : Hid (Tch (fun j => j = g) w (wr.setCell ⟨g, p, none⟩ (.int .u8 (y : Int)))) := Tch.setCell T.out (p := ⟨g, p, none⟩) (fun _ => rfl) _
      generalize (splice xs at_ (leN j (N : Int))).getD p 0 = z at cp
      have hjk : (j : Int) < (k : Int) := by omega
      clear F T hy hm hp hst
      have w1 : IntKind.i64.wrap (p : Int) = (p : Int) := by rw [IntKind.wrap_i64]; omega
      have w2 : IntKind.i64.wrap (m : Int) = (m : Int) := by rw [IntKind.wrap_i64]; omega
      go_wp2_with fail
      go_still_tail 11, (by kernel_rfl)
      go_wp2_with fail
      go_roundw
      case rel => exact ⟨j + 1, by omega, by go_num, F1, T1.out.drew⟩
      case measure => simp [intOf]; omega
    · have hnn : ¬ (j : Int) < (k : Int) := by omega
      have hjk : j = k := by omega
      rw [hjk] at F
      clear hjk
      go_wp2_with fail
      go_end0
      exact ⟨rfl, F.out, T.out⟩

theorem i64_or (a b : Nat) (ha : a < 4294967296) (hb : b < 4294967296) : Go.bits .or .i64 (a : Int) (b : Int) = ((a ||| b : Nat) : Int) := by
  have hx : a ||| b < 4294967296 := Nat.or_lt_two_pow (n := 32) ha hb
  show IntKind.i64.wrap ((BitVec.ofInt 64 (a : Int) ||| BitVec.ofInt 64 (b : Int)).toNat : Int) = _
  rw [BitVec.toNat_or, ofInt_u64 a (by omega), ofInt_u64 b (by omega), IntKind.wrap_i64]
  omega

theorem sl_succ {xs : List Int} {a j : Nat} (h : a + j < xs.length) : sl xs a (j + 1) = sl xs a j ++ [xs.getD (a + j) 0] := by
  unfold sl
  rw [List.take_succ_eq_append_getElem (by rw [List.length_drop]; omega), List.getElem_drop, List.getD_eq_getElem?_getD, List.getElem?_eq_getElem h]
  rfl
theorem sl_len {xs : List Int} {a k : Nat} (h : a + k ≤ xs.length) : (sl xs a k).length = k := by unfold sl; rw [List.length_take, List.length_drop]; omega
theorem sl_by {xs : List Int} (h : By xs) (a k : Nat) : By (sl xs a k) := (h.dropB a).take k
theorem vN_nat {xs : List Int} (h : By xs) : ∃ n : Nat, vN xs = (n : Int) ∧ n < 256 ^ xs.length := by
  have := vN_bnd xs h
  refine ⟨(vN xs).toNat, by omega, ?_⟩
  have e : ((256 ^ xs.length : Nat) : Int) = 256 ^ xs.length := by rw [Int.natCast_pow]; rfl
  omega

set_option maxHeartbeats 400000 in
theorem numberU_any (g at_ k : Nat) (xs : List Int) (w : World) (h : Fu w g xs) (hk : k ≤ 4) (ha : at_ + k ≤ 256) :
    Calls Try.prog 63 #[.pointer (some ⟨g, 0, none⟩), .int .i64 (at_ : Int), .int .i64 (k : Int)] w fun e w' => e = .returned (.int .i64 (vN (sl xs at_ k))) ∧ Below w.heap.size w w' := by
  have HF : Hid (Fu w g xs) := h
  have HL : Hid (xs.length = 256) := h.2.1
  have HB : Hid (By xs) := h.2.2
  clear h
  obtain ⟨R, hR⟩ : ∃ R, Hid (vN (sl xs at_ k) = R) := ⟨_, rfl⟩
  rw [hR.out]
  go_enter Try.func63, Try.ntmps63
  go_wp2_with fail
  go_loopw [7, 10] (fun vv i wr => ∃ (j X : Nat), j ≤ k ∧ i = .int .i64 j ∧ vv = .int .i64 (X : Int) ∧ X < 4294967296 ∧ Hid (vN (sl xs at_ j) = (X : Int) ∧ X < 256 ^ j) ∧ Hid (Below w.heap.size w wr)) (fun _ i _ => k - (intOf i).toNat)
  case atStart => exact ⟨0, 0, Nat.zero_le _, rfl, rfl, by decide, ⟨by simp [sl, vN], by decide⟩, Below.refl _ _⟩
  case round =>
    obtain ⟨j, X, hj, rfl, rfl, hX, HX, B⟩ := hrel
    by_cases hlt : j < k
    · obtain ⟨b, hb⟩ : ∃ b : Nat, Hid (xs.getD (at_ + j) 0 = (b : Int) ∧ b < 256) := by
        have := HB.out (at_ + j)
        exact ⟨(xs.getD (at_ + j) 0).toNat, by omega, by omega⟩
      have hb1 := hb.out.2
      obtain ⟨m, hm⟩ : ∃ m, 8 * j = m := ⟨_, rfl⟩
      have hm1 : 8 * (j : Int) = (m : Int) := by omega
      have hm2 : (m : Int) ≤ 24 := by omega
      obtain ⟨p, hp⟩ : ∃ p, at_ + j = p := ⟨_, rfl⟩
      have hp1 : (at_ : Int) + (j : Int) = (p : Int) := by omega
      have hp2 : (p : Int) < 256 := by omega
      have F : Fu wr g xs := HF.out.below B.out
      have cp : wr.cell? ⟨g, p, none⟩ = some (.int .u8 (b : Int)) := by rw [F.cell (by omega), ← hp, hb.out.1]
      have e256 : 256 ^ j = 2 ^ m := by rw [← hm, Nat.pow_mul]
      have hXm : X < 2 ^ m := by rw [← e256]; exact HX.out.2
      have hor : X ||| b * 2 ^ m = X + b * 2 ^ m := by
        rw [Nat.or_comm, Nat.mul_comm, ← Nat.two_pow_add_eq_or_of_lt hXm, Nat.add_comm]
      obtain ⟨Y, hY⟩ : ∃ Y, b * 2 ^ m = Y := ⟨_, rfl⟩
      have hY2 : X + Y < 256 ^ (j + 1) := by
        rw [← hY, Nat.pow_succ, e256]
        have : b * 2 ^ m ≤ 255 * 2 ^ m := Nat.mul_le_mul_right _ (by omega)
        omega
      have hpw : 256 ^ (j + 1) ≤ 256 ^ 4 := Nat.pow_le_pow_right (by decide) (by omega)
      have hY3 : X + Y < 4294967296 := by
        have : (256 : Nat) ^ 4 = 4294967296 := rfl
        omega
      have hY4 : (b : Int) * 2 ^ m = (Y : Int) := by rw [← hY, Int.natCast_mul, Int.natCast_pow]; rfl
      have ho := i64_or X Y hX (by omega)
      rw [← hY, hor, hY] at ho
      have HN : Hid (vN (sl xs at_ (j + 1)) = ((X + Y : Nat) : Int) ∧ X + Y < 256 ^ (j + 1)) := by
        refine ⟨?_, hY2⟩
        have h256 : (256 : Int) ^ j = ((2 ^ m : Nat) : Int) := by rw [← e256, Int.natCast_pow]; rfl
        rw [sl_succ (by rw [HL.out]; omega), vN_snoc, HX.out.1, sl_len (by rw [HL.out]; omega), hb.out.1, h256, ← hY, Int.natCast_add, Int.natCast_mul, Int.mul_comm]
      obtain ⟨Z, hZ⟩ : ∃ Z, X + Y = Z := ⟨_, rfl⟩
      rw [hZ] at ho HN hY3
      have hjk : (j : Int) < (k : Int) := by omega
      have hb2 : (b : Int) < 256 := by omega
      have hY5 : (Y : Int) < 4294967296 := by omega
      have w1 : IntKind.i64.wrap (p : Int) = (p : Int) := by rw [IntKind.wrap_i64]; omega
      have w2 : IntKind.i64.wrap (m : Int) = (m : Int) := by rw [IntKind.wrap_i64]; omega
      have w3 : IntKind.i64.wrap (Y : Int) = (Y : Int) := by rw [IntKind.wrap_i64]; omega
      clear HX hm hp F e256 hXm hor hY hY2 hpw hZ
      go_wp2_with fail
      go_roundw
      case rel => exact ⟨j + 1, Z, by omega, by go_num, rfl, hY3, HN, B⟩
      case measure => simp [intOf]; omega
    · have hnn : ¬ (j : Int) < (k : Int) := by omega
      have HE : Hid ((X : Int) = R) := by
        show _ = _
        rw [← hR.out, ← HX.out.1, show j = k by omega]
      clear HX
      go_wp2_with fail
      go_ret
      exact ⟨by rw [← HE.out]; rfl, B.out⟩
end Go.Proofs.Ytaacidgihhcpkaa
/-
  A sector as a value, of bytes; and with its sum.
-/
namespace Go.Proofs.Ytaacidgihhcpkaa
open Go.RowKit Pl
set_option linter.unusedVariables false
set_option linter.unusedSimpArgs false
set_option maxRecDepth 100000

theorem inf_u8U : (Try.prog.info? 5).map (·.size) = some 1 := by kernel_rfl
theorem bcsU_splice (L cs : List Int) (off : Nat) : splice (bcs L) off (bcs cs) = bcs (splice L off cs) := by
  unfold splice bcs
  simp only [List.map_append, List.map_take, List.map_drop, List.length_map]
/-- 'copy(d, s)' into a block of bytes. -/
theorem wpList_copyU (w : World) {ops : Array Oper} {rest : List Oper} {o : Oper} {a : Act} {Q : Exit → Act → World → Prop} (hgd : o.guard = none) (d s : Operand)
    (ho : o.op = .call { callee := .builtin .copy, args := #[d, s], argTypes := #[36, 36] }) (g off dLen dCap : Nat) (hd : a.eval d = .slice (some ⟨g, off, none⟩) dLen dCap)
    (cur : List Int) (t : TypeId) (hg : w.heap[g]? = some (.cells (bcs cur).toArray t (0, 0))) (v : Value) (xs : List Int) (hs : a.eval s = v) (hr : Rd .u8 w v xs) (hfit : off + min xs.length dLen ≤ cur.length)
    (B : Nat) (w0 : World) (hB : Below B w0 w) (hBg : B ≤ g)
    (h : ∀ w', Hid (w'.heap[g]? = some (.cells (bcs (splice cur off (xs.take dLen))).toArray t (0, 0))) → Hid (Below B w0 w') → wpList Try.prog ops Q rest (a.put o.dst (goInt (xs.take dLen).length)) w') : wpList Try.prog ops Q (o :: rest) a w := by
  obtain ⟨sp, cap, rfl, h1, h2, h3, h4⟩ := hr
  refine wpList_copy_splice hgd d s 36 36 ho 5 Try.underlying36 inf_u8U (some ⟨g, off, none⟩) sp dLen dCap xs.length cap hd hs g off (bcs cur) t hg (bcs (xs.take dLen)) ?_ ?_ ?_ (bcs_one _) B w0 hB hBg ?_
  · rw [bcs_len, List.length_take]; exact Nat.min_comm _ _
  · intro hp
    refine ⟨rfl, ?_⟩
    rw [bcs_len, List.length_take] at hp
    rcases h4 with rfl | ⟨b, o, rfl, hc⟩
    · simp at hp
    · refine ⟨_, rfl, fun j u hu => ?_⟩
      have hjl : j < (bcs (xs.take dLen)).length := (List.getElem?_eq_some_iff.1 hu).1
      rw [bcs_len, List.length_take] at hjl
      rw [Addr.add_lit, hc j (by omega)]
      rw [bcs, List.getElem?_map, List.getElem?_take, if_pos (by omega), List.getElem?_eq_getElem (by omega)] at hu
      simp only [Option.map_some, Option.some.injEq] at hu
      rw [← hu, List.getD_eq_getElem?_getD, List.getElem?_eq_getElem (by omega)]
      rfl
  · rw [bcs_len, bcs_len, List.length_take]; omega
  · intro w' hh hb'
    have hh' := hh.out
    rw [bcsU_splice] at hh'
    rw [bcs_len]
    exact h w' hh' hb'
theorem splice_next {xs A B : List Int} {a b : Nat} (hb : b = a + A.length) (h : b + B.length ≤ xs.length) : splice (splice xs a A) b B = splice xs a (A ++ B) := by
  subst hb
  unfold splice
  have hl : (xs.take a).length = a := by rw [List.length_take]; omega
  have e1 : (xs.take a ++ (A ++ xs.drop (a + A.length))).take (a + A.length) = xs.take a ++ A := by
    rw [← List.append_assoc, List.take_append_of_le_length (by rw [List.length_append, hl]; exact Nat.le_refl _), List.take_of_length_le (by rw [List.length_append, hl]; exact Nat.le_refl _)]
  have e2 : (xs.take a ++ (A ++ xs.drop (a + A.length))).drop (a + A.length + B.length) = xs.drop (a + (A ++ B).length) := by
    rw [← List.append_assoc, List.drop_append, List.drop_of_length_le (by rw [List.length_append, hl]; omega), List.nil_append, List.length_append, hl, List.drop_drop, List.length_append]
    congr 1
    omega
  rw [e1, e2]
  simp only [List.append_assoc]
theorem splice_same {xs A : List Int} {a b : Nat} (hb : b = a + A.length) (h : b < xs.length) (hy : xs.getD b 0 = 0) : splice xs a (A ++ [0]) = splice xs a A := by
  subst hb
  unfold splice
  rw [List.getD_eq_getElem?_getD, List.getElem?_eq_getElem h] at hy
  rw [List.drop_eq_getElem_cons h, List.length_append, List.append_assoc]
  simp only [Option.getD_some] at hy
  rw [hy]
  rfl
theorem splice_get {xs A : List Int} {a b : Nat} (h : a + A.length ≤ xs.length) (hb : a + A.length ≤ b) : (splice xs a A).getD b 0 = xs.getD b 0 := by
  unfold splice
  rw [List.getD_eq_getElem?_getD, ← List.append_assoc, List.getElem?_append_right (by rw [List.length_append, List.length_take]; omega), List.length_append, List.length_take, List.getElem?_drop, ← List.getD_eq_getElem?_getD]
  congr 1
  omega
theorem zz_drop (m : Nat) : zz.drop m = List.replicate (256 - m) 0 := by unfold zz; rw [List.drop_replicate]
theorem spliceU_zz {xs : List Int} (h : xs.length = 256) : splice zz 0 (xs.take 256) = xs := by
  unfold splice
  rw [List.take_zero, List.nil_append, List.take_of_length_le (by omega), List.drop_of_length_le (by rw [zz_len]; omega), List.append_nil]
theorem le4_leN (c : Nat) : leN 4 (c : Int) = le4 c := by
  unfold leN le4
  simp [List.range_succ]
theorem crc_ltU (xs : List Int) : crc xs < 4294967296 := by unfold crc; omega
theorem smd_splice {xs : List Int} (h : xs.length = 256) : splice xs 252 (leN 4 (crc (xs.take 252) : Int)) = smd xs := by
  unfold splice smd
  rw [leN_len, le4_leN, List.drop_of_length_le (by omega), List.append_nil]

set_option maxHeartbeats 400000 in
theorem ofU_any (v : Value) (xs : List Int) (w : World) (hr : Rd .u8 w v xs) (hb : By xs) (hl : xs.length = 256) :
    Calls Try.prog 55 #[v] w fun e w' => e = .returned (.agg (bcs xs).toArray) ∧ Below w.heap.size w w' := by
  obtain ⟨a, cap, rfl, h1, h2, _⟩ := id hr
  obtain ⟨hv, hi⟩ := zero_of_info info_frmU
  have HSL := slice_frmU
  have HI : Hid ((Try.prog.info? 79).map (·.size) = some 256) := hi
  have HR : Hid (Rd .u8 w (.slice a 256 cap) xs) := by rw [← hl]; exact hr
  have HY : Hid (By xs) := hb
  have HL : Hid (xs.length = 256) := hl
  rw [hl] at h1 ⊢
  obtain ⟨W1, hW1⟩ : ∃ W1, w.alloc (.cells (bcs zz).toArray 79) = W1 := ⟨_, rfl⟩
  obtain ⟨W2, hW2⟩ : ∃ W2, W1.alloc (.cells (bcs zz).toArray 79) = W2 := ⟨_, rfl⟩
  have s1 : W1.heap.size = w.heap.size + 1 := by rw [← hW1]; simp
  have s2 : W2.heap.size = w.heap.size + 1 + 1 := by rw [← hW2]; simp [s1]
  have b1 : Below w.heap.size w W1 := by rw [← hW1]; exact (Below.refl _ _).alloc (Nat.le_refl _) _
  have b2 : Below W1.heap.size W1 W2 := by rw [← hW2]; exact (Below.refl _ _).alloc (Nat.le_refl _) _
  have F1 : Fu W1 w.heap.size zz := by rw [← hW1]; exact fv_newU w zz_len zz_by
  have FR : Hid (Fu W2 w.heap.size zz) := F1.below b2
  have F2 : Hid (Fu W2 (w.heap.size + 1) zz) := by rw [← hW2, ← s1]; exact fv_newU W1 zz_len zz_by
  have M2 : Hid (W2.heap[w.heap.size + 1]? = some (.cells (bcs zz).toArray 79 (0, 0))) := F2.out.1
  have B2 : Hid (Below w.heap.size w W2) := b1.trans (b2.mono (by omega))
  have R2 : Hid (Rd .u8 W2 (.slice a 256 cap) xs) := HR.out.below B2.out
  have HFT : Hid (0 + min xs.length 256 ≤ zz.length) := by show _ ≤ _; rw [zz_len]; omega
  have BX : Hid (∀ W, Below (w.heap.size + 1) W W) := fun W => Below.refl _ _
  obtain ⟨Z, hZ⟩ : ∃ Z, Hid ((bcs zz).toArray = Z) := ⟨_, rfl⟩
  rw [hZ.out] at hv hW1 hW2
  clear F1 b1 b2 hr hb hl h2 hi s2
  go_enter Try.func55, Try.ntmps55
  go_wp2_with (with_reducible (show wpList _ _ _ (Oper.mk _ (Op.call _) _ _ _ _ :: _) _ _); refine wpList_copyU _ rfl (.tmp 4) (.tmp 5) rfl (w.heap.size + 1) 0 256 256 ?h3 zz _ M2.out _ xs ?h5 R2.out HFT.out (w.heap.size + 1) W2 (BX.out W2) (Nat.le_refl _) ?_; (case h3 => kernel_rfl); (case h5 => kernel_rfl))
  intro w3 M3 N3
  rw [spliceU_zz HL.out] at M3
  obtain ⟨g, hg⟩ : ∃ g, Hid (w.heap.size = g) := ⟨_, rfl⟩
  rw [hg.out] at FR M3 N3 B2 ⊢
  have F3 : Hid (Fu w3 (g + 1) xs) := ⟨M3.out, HL.out, HY.out⟩
  have R3 : Hid (Fu w3 g zz) := ⟨by rw [N3.out.block g (by omega)]; exact FR.out.1, FR.out.2⟩
  have B3 : Hid (Below g w w3) := B2.out.trans (N3.out.mono (by omega))
  have HRG : Hid (w3.rangeAt (g + 1) 0 (bcs xs)) := F3.out.range
  have HPL : Hid ((bcs xs).length = 256) := by show _ = _; rw [bcs_len]; exact HL.out
  have HT : Hid (w3.there g 0 256) := R3.out.there
  have HSZ : Hid ((bcs xs).toArray.size = 256) := bcs_sizeU HL.out
  have HON : Hid ((bcs xs).toArray.all (·.oneCell') = true) := bcs_all _
  have HP : Hid (Fu (w3.setCells g 0 (bcs xs)) g xs) := R3.out.put HL.out HY.out
  have HBB : Hid (Below g w (w3.setCells g 0 (bcs xs))) := B3.out.trans ((setCells_tchD g _ 0 w3).below (by have := R3.out.lt; omega) (fun k e => by omega))
  generalize goInt (List.take 256 xs).length = gi
  clear M3 N3 FR F2 M2 B2 R2 hW1 hW2 s1 HFT F3 R3 B3 BX
  go_wp2_with (first | (with_reducible (show wpList _ _ _ (Oper.mk _ (Op.load _ _) _ _ _ _ :: _) _ _); refine wpList_load_mid rfl 79 (.tmp 3) rfl (g + 1) 0 rfl (bcs xs) _ HRG.out Try.underlying79 rfl (by rw [HPL.out]; exact HI.out) ?_) | (with_reducible (show wpList _ _ _ (Oper.mk _ (Op.store _ _ _) _ _ _ _ :: _) _ _); refine wpList_store_mid rfl 79 (.tmp 2) (.tmp 7) rfl g 0 (bcs xs).toArray rfl rfl (by rw [HSZ.out]; exact HT.out) (by rw [HSZ.out]; exact HI.out) HON.out ?_))
  refine bodyPost_ret (v := .agg (bcs xs).toArray) ?_ rfl ⟨rfl, ?_⟩
  · exact results_atU (p := 2) (ty := 79) rfl _ _ _ g _ rfl (by simpa using HP.out.load)
  · rw [hg.out]; simpa using HBB.out

set_option maxHeartbeats 400000 in
theorem summedU_any (xs : List Int) (w : World) (hl : xs.length = 256) (hb : By xs) :
    Calls Try.prog 51 #[.agg (bcs xs).toArray] w fun e w' => e = .returned (.agg (bcs (smd xs)).toArray) ∧ Below w.heap.size w w' := by
  obtain ⟨hv, hi⟩ := zero_of_info info_frmU
  have HSH := slice_frm_hU
  have HI : Hid ((Try.prog.info? 79).map (·.size) = some 256) := hi
  have HL : Hid (xs.length = 256) := hl
  have HB : Hid (By xs) := hb
  obtain ⟨W1, hW1⟩ : ∃ W1, w.alloc (.cells (bcs xs).toArray 79) = W1 := ⟨_, rfl⟩
  obtain ⟨W2, hW2⟩ : ∃ W2, W1.alloc (.cells (bcs zz).toArray 79) = W2 := ⟨_, rfl⟩
  have F1 : Fu W1 w.heap.size xs := by rw [← hW1]; exact fv_newU w hl hb
  have s1 : W1.heap.size = w.heap.size + 1 := by rw [← hW1]; simp
  have s2 : W2.heap.size = w.heap.size + 2 := by rw [← hW2]; simp [s1]
  have FA : Hid (Fu W2 w.heap.size xs) := by rw [← hW2]; exact F1.below ((Below.refl _ _).alloc (Nat.le_refl _) _)
  have FB : Hid (Fu W2 (w.heap.size + 1) zz) := by rw [← hW2, ← s1]; exact fv_newU W1 zz_len zz_by
  have B2 : Hid (Below w.heap.size w W2) := by
    rw [← hW2, ← hW1]
    exact ((Below.refl _ _).alloc (Nat.le_refl _) _).alloc (by simp) _
  obtain ⟨Z, hZ⟩ : ∃ Z, Hid ((bcs zz).toArray = Z) := ⟨_, rfl⟩
  obtain ⟨X, hX⟩ : ∃ X, Hid ((bcs xs).toArray = X) := ⟨_, rfl⟩
  rw [hZ.out] at hv hW2
  rw [hX.out] at hW1 ⊢
  have HR : Hid (Rd .u8 W2 (.slice (some ⟨w.heap.size, 0, none⟩) 252 256) (xs.take 252)) := FA.out.rdTo 252 (by decide)
  have HC : Hid (crc (xs.take 252) < 4294967296) := crc_ltU _
  obtain ⟨g, hg⟩ : ∃ g, Hid (w.heap.size = g) := ⟨_, rfl⟩
  have HW3 : Hid ((w.alloc (.cells X 79)).alloc (.cells Z 79) = W2) := by show _ = _; rw [hW1]; exact hW2
  clear hi hl hb F1 s1 s2 hW1 hW2
  go_enter Try.func51, Try.ntmps51
  go_wp2_with fail
  rw [HW3.out]
  rw [hg.out] at HR FA FB B2 ⊢
  refine (crc_any _ _ _ HR.out (HB.out.take 252)).mono ?_
  rintro e w3 ⟨rfl, rfl⟩
  have HE := hideP (smd_splice HL.out)
  obtain ⟨s, hs⟩ : ∃ s, crc (xs.take 252) = s := ⟨_, rfl⟩
  rw [hs] at HC HE ⊢
  clear hs
  go_wp2_with fail
  refine (setU_any g 252 4 s xs _ FA.out (by have := HC.out; omega) (by decide) (by decide)).mono ?_
  rintro e w4 ⟨rfl, f4, t4⟩
  rw [HE.out] at f4
  have F4 : Hid (Fu w4 g (smd xs)) := f4
  have R4 : Hid (Fu w4 (g + 1) zz) := FB.out.tch t4 (by omega)
  have B4 : Hid (Below g w w4) := B2.out.trans (t4.below (Nat.le_of_lt FA.out.lt) (fun k e => by rw [e]; exact Nat.le_refl _))
  have HSL : Hid ((smd xs).length = 256) := smd_len HL.out
  have HSB : Hid (By (smd xs)) := smd_by HB.out
  have HRG : Hid (w4.rangeAt g 0 (bcs (smd xs))) := F4.out.range
  generalize hys : smd xs = ys at *
  have HYS : Hid (smd xs = ys) := hys
  clear hys
  have HPL : Hid ((bcs ys).length = 256) := by show _ = _; rw [bcs_len]; exact HSL.out
  have HT : Hid (w4.there (g + 1) 0 256) := R4.out.there
  have HSZ : Hid ((bcs ys).toArray.size = 256) := bcs_sizeU HSL.out
  have HON : Hid ((bcs ys).toArray.all (·.oneCell') = true) := bcs_all _
  have HP : Hid (Fu (w4.setCells (g + 1) 0 (bcs ys)) (g + 1) ys) := R4.out.put HSL.out HSB.out
  have HBB : Hid (Below g w (w4.setCells (g + 1) 0 (bcs ys))) := B4.out.trans ((setCells_tchD (g + 1) _ 0 w4).below (by have := R4.out.lt; omega) (fun k e => by omega))
  clear f4 t4 HR FA FB B2 HW3 R4 B4 HE
  go_wp2_with (first | (with_reducible (show wpList _ _ _ (Oper.mk _ (Op.load _ _) _ _ _ _ :: _) _ _); refine wpList_load_mid rfl 79 (.tmp 1) rfl g 0 rfl (bcs ys) _ HRG.out Try.underlying79 rfl (by rw [HPL.out]; exact HI.out) ?_) | (with_reducible (show wpList _ _ _ (Oper.mk _ (Op.store _ _ _) _ _ _ _ :: _) _ _); refine wpList_store_mid rfl 79 (.tmp 2) (.tmp 6) rfl (g + 1) 0 (bcs ys).toArray rfl rfl (by rw [HSZ.out]; exact HT.out) (by rw [HSZ.out]; exact HI.out) HON.out ?_))
  refine bodyPost_ret (v := .agg (bcs ys).toArray) ?_ rfl ⟨by rw [HYS.out], ?_⟩
  · exact results_atU (p := 2) (ty := 79) rfl _ _ _ (g + 1) _ rfl (by simpa using HP.out.load)
  · rw [hg.out]; simpa using HBB.out
end Go.Proofs.Ytaacidgihhcpkaa
/-
  The program's sector of a piece.
-/
namespace Go.Proofs.Ytaacidgihhcpkaa
open Go.RowKit Pl
set_option linter.unusedVariables false
set_option linter.unusedSimpArgs false
set_option maxRecDepth 100000

theorem slice_frm_lhU (g : Nat) (w : World) : (Instr.sliceAt 79 (.pointer (some ⟨g, 0, none⟩)) (some (.int .i64 12)) (some (.int .i64 252)) none).run Try.prog w = .ok (.slice (some ⟨g, 12, none⟩) 240 244) w := by
  have := run_sliceAt_array_lh w 79 ⟨g, 0, none⟩ arr_undU .i64 .i64 12 252 (by omega) (by omega) (by rw [arr_lenU]; omega)
  rw [arr_lenU, arr_elU] at this
  rw [this]
  simp [slicedAt, go_sem]
theorem jpre_end {p : Pc} (h : p.ys.length ≤ 240) : splice zz 0 (jhd p ++ p.ys) = jpre p ++ [0, 0, 0, 0] := by
  unfold splice jpre
  rw [List.take_zero, List.nil_append, zz_drop, List.length_append, jhd_len]
  rw [show 256 - (0 + (12 + p.ys.length)) = (240 - p.ys.length) + 4 by omega, ← List.replicate_append_replicate]
  simp only [List.append_assoc]
  rfl
theorem jhd_eq (p : Pc) : ((((leN 1 74 ++ leN 1 (p.pl : Int)) ++ leN 1 (p.mn : Int)) ++ leN 1 (p.ys.length : Int)) ++ leN 4 (p.gen : Int)) ++ leN 4 (p.num : Int) = jhd p := by simp [jhd]

set_option maxHeartbeats 1000000 in
theorem sectorOfJ_any (p : Pc) (v : Value) (w : World) (hr : Rd .u8 w v p.ys) (hb : By p.ys) (hp : OkR p) :
    Calls Try.prog 36 #[pcv p v] w fun e w' => e = .returned (.agg (bcs (jsec p)).toArray) ∧ Below w.heap.size w w' := by
  obtain ⟨a, cap, rfl, hc1, hc2, _⟩ := id hr
  obtain ⟨hv, hi⟩ := zero_of_info info_frmU
  have HSL := slice_frm_lhU
  have HR : Hid (Rd .u8 w (.slice a p.ys.length cap) p.ys) := hr
  have HY : Hid (By p.ys) := hb
  have HP : Hid (OkR p) := hp
  have HI : Hid ((Try.prog.info? 79).map (·.size) = some 256) := hi
  have HH := hideP (jhd_eq p)
  have HE := hideP (jpre_end hp.len)
  have HSM := hideP (smd_jpre hp.len [0, 0, 0, 0])
  have HJL : Hid ((jsec p).length = 256) := jsec_len hp.len
  have HJB : Hid (By (jsec p)) := jsec_by hb
  have HPL : Hid ((jpre p ++ [0, 0, 0, 0]).length = 256) := by show _ = _; rw [List.length_append, jpre_len hp.len]; rfl
  have HPB : Hid (By (jpre p ++ [0, 0, 0, 0])) := (jpre_by hb).appendB (by_of_memB (by simp))
  have q1 := hp.pl
  have q2 := hp.mn
  have q3 := hp.gen
  have q4 := hp.num
  have q5 := hp.len
  obtain ⟨P, M, G, N, ys⟩ := p
  dsimp only at HR HY HH HE q1 q2 q3 q4 q5 hc1
  unfold pcv
  dsimp only
  obtain ⟨jp, hjp⟩ : ∃ jp, Hid (jpre ⟨P, M, G, N, ys⟩ = jp) := ⟨_, rfl⟩
  obtain ⟨jh, hjh⟩ : ∃ jp, Hid (jhd ⟨P, M, G, N, ys⟩ = jp) := ⟨_, rfl⟩
  have HHL : Hid (jh.length = 12) := by show _ = _; rw [← hjh.out, jhd_len]
  obtain ⟨js, hjs⟩ : ∃ jp, Hid (jsec ⟨P, M, G, N, ys⟩ = jp) := ⟨_, rfl⟩
  rw [hjs.out] at HJL HJB HSM ⊢
  rw [hjp.out] at HE HSM HPL HPB
  rw [hjh.out] at HE HH
  clear hp HP hb hr
  obtain ⟨W1, hW1⟩ : ∃ W1, w.alloc (.cells #[.int .i64 (P : Int), .int .i64 (M : Int), .int .i64 (G : Int), .int .i64 (N : Int), .slice a ys.length cap] 82) = W1 := ⟨_, rfl⟩
  obtain ⟨W2, hW2⟩ : ∃ W2, W1.alloc (.cells (bcs zz).toArray 79) = W2 := ⟨_, rfl⟩
  obtain ⟨W3, hW3⟩ : ∃ W3, W2.alloc (.cells (bcs zz).toArray 79) = W3 := ⟨_, rfl⟩
  have s1 : W1.heap.size = w.heap.size + 1 := by rw [← hW1]; simp
  have s2 : W2.heap.size = w.heap.size + 1 + 1 := by rw [← hW2]; simp [s1]
  have b1 : Below w.heap.size w W1 := by rw [← hW1]; exact (Below.refl _ _).alloc (Nat.le_refl _) _
  have b2 : Below W1.heap.size W1 W2 := by rw [← hW2]; exact (Below.refl _ _).alloc (Nat.le_refl _) _
  have b3 : Below W2.heap.size W2 W3 := by rw [← hW3]; exact (Below.refl _ _).alloc (Nat.le_refl _) _
  have Q1 : Bo W1 w.heap.size 82 [.int .i64 (P : Int), .int .i64 (M : Int), .int .i64 (G : Int), .int .i64 (N : Int), .slice a ys.length cap] := by rw [← hW1]; exact bo_new w _ _
  have Q3 : Hid (Bo W3 w.heap.size 82 [.int .i64 (P : Int), .int .i64 (M : Int), .int .i64 (G : Int), .int .i64 (N : Int), .slice a ys.length cap]) := (Q1.below b2).below b3
  have F2 : Fu W2 (w.heap.size + 1) zz := by rw [← hW2, ← s1]; exact fv_newU W1 zz_len zz_by
  have R3 : Hid (Fu W3 (w.heap.size + 1) zz) := F2.below b3
  have F3 : Hid (Fu W3 (w.heap.size + 1 + 1) zz) := by rw [← hW3, ← s2]; exact fv_newU W2 zz_len zz_by
  have B3 : Hid (Below w.heap.size w W3) := b1.trans ((b2.trans (b3.mono (by omega))).mono (by omega))
  obtain ⟨Z, hZ⟩ : ∃ Z, Hid ((bcs zz).toArray = Z) := ⟨_, rfl⟩
  rw [hZ.out] at hv hW2 hW3
  obtain ⟨l, hl⟩ : ∃ l, Hid (ys.length = l) := ⟨_, rfl⟩
  rw [hl.out] at HR hc1 q5 hW1 Q3 HH ⊢
  have hc : cap ≤ 9223372036854775807 := by unfold maxLen at hc2; omega
  clear Q1 F2 b1 b2 b3 hi hc2
  go_enter Try.func36, Try.ntmps36
  go_wp2_with fail
  obtain ⟨g, hg⟩ : ∃ g, Hid (w.heap.size = g) := ⟨_, rfl⟩
  rw [hg.out] at Q3 R3 F3 B3 ⊢
  clear hW1 hW2 hW3 s1 s2
  refine (setU_any (g + 1 + 1) 0 1 74 _ W3 F3.out (by omega) (by decide) (by decide)).mono ?_
  rintro e w4 ⟨rfl, f4, t4⟩
  rw [show ((74 : Nat) : Int) = 74 from rfl] at f4
  have F4 : Hid (Fu w4 (g + 1 + 1) (splice zz 0 (leN 1 74))) := f4
  have Q4 : Hid (Bo w4 g 82 [.int .i64 (P : Int), .int .i64 (M : Int), .int .i64 (G : Int), .int .i64 (N : Int), .slice a l cap]) := Q3.out.tch t4 (by omega)
  have R4 : Hid (Fu w4 (g + 1) zz) := R3.out.tch t4 (by omega)
  have B4 : Hid (Below g w w4) := B3.out.trans (t4.below (by have := F3.out.lt; omega) (fun k e => by rw [e]; omega))
  have c4 := Q4.out.cell (i := 0) rfl
  clear f4 t4 F3 Q3 R3 B3
  go_wp2_with fail
  refine (setU_any (g + 1 + 1) 1 1 P _ w4 F4.out (by omega) (by decide) (by decide)).mono ?_
  rintro e w5 ⟨rfl, f5, t5⟩
  rw [splice_next (by simp only [List.length_append, leN_len]) (by rw [leN_len, zz_len]; decide)] at f5
  have F5 : Hid (Fu w5 (g + 1 + 1) (splice zz 0 ((leN 1 74) ++ leN 1 (P : Int)))) := f5
  have Q5 : Hid (Bo w5 g 82 [.int .i64 (P : Int), .int .i64 (M : Int), .int .i64 (G : Int), .int .i64 (N : Int), .slice a l cap]) := Q4.out.tch t5 (by omega)
  have R5 : Hid (Fu w5 (g + 1) zz) := R4.out.tch t5 (by omega)
  have B5 : Hid (Below g w w5) := B4.out.trans (t5.below (by have := F4.out.lt; omega) (fun k e => by rw [e]; omega))
  have c5 := Q5.out.cell (i := 1) rfl
  clear f5 t5 F4 Q4 R4 B4 c4
  go_wp2_with fail
  refine (setU_any (g + 1 + 1) 2 1 M _ w5 F5.out (by omega) (by decide) (by decide)).mono ?_
  rintro e w6 ⟨rfl, f6, t6⟩
  rw [splice_next (by simp only [List.length_append, leN_len]) (by rw [leN_len, zz_len]; decide)] at f6
  have F6 : Hid (Fu w6 (g + 1 + 1) (splice zz 0 (((leN 1 74) ++ leN 1 (P : Int)) ++ leN 1 (M : Int)))) := f6
  have Q6 : Hid (Bo w6 g 82 [.int .i64 (P : Int), .int .i64 (M : Int), .int .i64 (G : Int), .int .i64 (N : Int), .slice a l cap]) := Q5.out.tch t6 (by omega)
  have R6 : Hid (Fu w6 (g + 1) zz) := R5.out.tch t6 (by omega)
  have B6 : Hid (Below g w w6) := B5.out.trans (t6.below (by have := F5.out.lt; omega) (fun k e => by rw [e]; omega))
  have c6 := Q6.out.cell (i := 4) rfl
  clear f6 t6 F5 Q5 R5 B5 c5
  go_wp2_with fail
  refine (setU_any (g + 1 + 1) 3 1 l _ w6 F6.out (by omega) (by decide) (by decide)).mono ?_
  rintro e w7 ⟨rfl, f7, t7⟩
  rw [splice_next (by simp only [List.length_append, leN_len]) (by rw [leN_len, zz_len]; decide)] at f7
  have F7 : Hid (Fu w7 (g + 1 + 1) (splice zz 0 ((((leN 1 74) ++ leN 1 (P : Int)) ++ leN 1 (M : Int)) ++ leN 1 (l : Int)))) := f7
  have Q7 : Hid (Bo w7 g 82 [.int .i64 (P : Int), .int .i64 (M : Int), .int .i64 (G : Int), .int .i64 (N : Int), .slice a l cap]) := Q6.out.tch t7 (by omega)
  have R7 : Hid (Fu w7 (g + 1) zz) := R6.out.tch t7 (by omega)
  have B7 : Hid (Below g w w7) := B6.out.trans (t7.below (by have := F6.out.lt; omega) (fun k e => by rw [e]; omega))
  have c7 := Q7.out.cell (i := 2) rfl
  clear f7 t7 F6 Q6 R6 B6 c6
  go_wp2_with fail
  refine (setU_any (g + 1 + 1) 4 4 G _ w7 F7.out (by omega) (by decide) (by decide)).mono ?_
  rintro e w8 ⟨rfl, f8, t8⟩
  rw [splice_next (by simp only [List.length_append, leN_len]) (by rw [leN_len, zz_len]; decide)] at f8
  have F8 : Hid (Fu w8 (g + 1 + 1) (splice zz 0 (((((leN 1 74) ++ leN 1 (P : Int)) ++ leN 1 (M : Int)) ++ leN 1 (l : Int)) ++ leN 4 (G : Int)))) := f8
  have Q8 : Hid (Bo w8 g 82 [.int .i64 (P : Int), .int .i64 (M : Int), .int .i64 (G : Int), .int .i64 (N : Int), .slice a l cap]) := Q7.out.tch t8 (by omega)
  have R8 : Hid (Fu w8 (g + 1) zz) := R7.out.tch t8 (by omega)
  have B8 : Hid (Below g w w8) := B7.out.trans (t8.below (by have := F7.out.lt; omega) (fun k e => by rw [e]; omega))
  have c8 := Q8.out.cell (i := 3) rfl
  clear f8 t8 F7 Q7 R7 B7 c7
  go_wp2_with fail
  refine (setU_any (g + 1 + 1) 8 4 N _ w8 F8.out (by omega) (by decide) (by decide)).mono ?_
  rintro e w9 ⟨rfl, f9, t9⟩
  rw [splice_next (by simp only [List.length_append, leN_len]) (by rw [leN_len, zz_len]; decide)] at f9
  rw [HH.out] at f9
  have F9 : Hid (Fu w9 (g + 1 + 1) (splice zz 0 (jh))) := f9
  have Q9 : Hid (Bo w9 g 82 [.int .i64 (P : Int), .int .i64 (M : Int), .int .i64 (G : Int), .int .i64 (N : Int), .slice a l cap]) := Q8.out.tch t9 (by omega)
  have R9 : Hid (Fu w9 (g + 1) zz) := R8.out.tch t9 (by omega)
  have B9 : Hid (Below g w w9) := B8.out.trans (t9.below (by have := F8.out.lt; omega) (fun k e => by rw [e]; omega))
  have c9 := Q9.out.cell (i := 4) rfl
  clear f9 t9 F8 Q8 R8 B8 c8
  go_wp2_with fail
  have HR9 : Hid (Rd .u8 w9 (.slice a l cap) ys) := HR.out.below (hg.out ▸ B9.out : Below w.heap.size w w9)
  have FT : 12 + min ys.length 240 ≤ (splice zz 0 jh).length := by rw [F9.out.2.1, hl.out]; omega
  refine wp_region_still_tail 3 (by kernel_rfl) (by kernel_rfl) ?_
  simp only [List.take_succ_cons, List.take_zero, List.drop_succ_cons, List.drop_zero]
  repeat still_step
  refine wpStill_nil ?_
  change wpList _ _ _ _ _ w9.drew
  refine wpList_copyU _ rfl (.tmp 25) (.tmp 27) rfl (g + 1 + 1) 12 240 244 (by kernel_rfl) (splice zz 0 jh) 79 F9.out.1 _ ys (by kernel_rfl) (HR9.out.below ((Below.refl _ _).drew)) FT (g + 1 + 1) w9 ((Below.refl _ _).drew) (Nat.le_refl _) ?_
  intro w5 M5 N5
  rw [List.take_of_length_le (l := ys) (by rw [hl.out]; omega), splice_next (by rw [HHL.out]) (by rw [hl.out, zz_len]; omega), HE.out] at M5
  have F5 : Hid (Fu w5 (g + 1 + 1) (jp ++ [0, 0, 0, 0])) := ⟨M5.out, HPL.out, HPB.out⟩
  have R5 : Hid (Fu w5 (g + 1) zz) := ⟨by rw [N5.out.block (g + 1) (by omega)]; exact R9.out.1, R9.out.2⟩
  have B5 : Hid (Below g w w5) := B9.out.trans (N5.out.mono (by omega))
  have HRG : Hid (w5.rangeAt (g + 1 + 1) 0 (bcs (jp ++ [0, 0, 0, 0]))) := F5.out.range
  have HBL : Hid ((bcs (jp ++ [0, 0, 0, 0])).length = 256) := by show _ = _; rw [bcs_len]; exact HPL.out
  generalize jp ++ [0, 0, 0, 0] = PP at *
  generalize goInt (List.take 240 ys).length = gi
  clear M5 N5 FT HR9 F9 Q9 R9 B9 c9 HE
  go_wp2_with (with_reducible (show wpList _ _ _ (Oper.mk _ (Op.load _ _) _ _ _ _ :: _) _ _); refine wpList_load_mid rfl 79 (.tmp 3) rfl (g + 1 + 1) 0 rfl (bcs PP) _ HRG.out Try.underlying79 rfl (by rw [HBL.out]; exact HI.out) ?_)
  refine (summedU_any PP w5 F5.out.2.1 F5.out.2.2).mono ?_
  rintro e w6 ⟨rfl, hb6⟩
  rw [HSM.out]
  have R6 : Hid (Fu w6 (g + 1) zz) := R5.out.below hb6
  have B6 : Hid (Below g w w6) := B5.out.trans (hb6.mono (by have := F5.out.lt; omega))
  have HT : Hid (w6.there (g + 1) 0 256) := R6.out.there
  have HSZ : Hid ((bcs js).toArray.size = 256) := bcs_sizeU HJL.out
  have HON : Hid ((bcs js).toArray.all (·.oneCell') = true) := bcs_all _
  have HPT : Hid (Fu (w6.setCells (g + 1) 0 (bcs js)) (g + 1) js) := R6.out.put HJL.out HJB.out
  have HBB : Hid (Below g w (w6.setCells (g + 1) 0 (bcs js))) := B6.out.trans ((setCells_tchD (g + 1) _ 0 w6).below (by have := R6.out.lt; omega) (fun k e => by omega))
  clear hb6 F5 R5 B5 HRG HBL HSM
  go_wp2_with (with_reducible (show wpList _ _ _ (Oper.mk _ (Op.store _ _ _) _ _ _ _ :: _) _ _); refine wpList_store_mid rfl 79 (.tmp 2) (.tmp 30) rfl (g + 1) 0 (bcs js).toArray rfl rfl (by rw [HSZ.out]; exact HT.out) (by rw [HSZ.out]; exact HI.out) HON.out ?_)
  refine bodyPost_ret (v := .agg (bcs js).toArray) ?_ rfl ⟨rfl, ?_⟩
  · exact results_atU (p := 2) (ty := 79) rfl _ _ _ (g + 1) _ rfl (by simpa using HPT.out.load)
  · rw [hg.out]; simpa using HBB.out
end Go.Proofs.Ytaacidgihhcpkaa
/-
  The piece that a sector tells, be it so or not.
-/
namespace Go.Proofs.Ytaacidgihhcpkaa
open Go.RowKit Pl
set_option linter.unusedVariables false
set_option linter.unusedSimpArgs false
set_option maxRecDepth 100000

theorem vN_one (x : Int) : vN [x] = x := by simp [vN]
theorem sl_one {xs : List Int} {a : Nat} (h : a < xs.length) : sl xs a 1 = [xs.getD a 0] := by
  unfold sl
  rw [List.take_one, List.head?_drop, List.getElem?_eq_getElem h, List.getD_eq_getElem?_getD, List.getElem?_eq_getElem h]
  rfl
theorem vN_sl_one {xs : List Int} (hb : By xs) {a : Nat} (h : a < xs.length) : vN (sl xs a 1) = (bN xs a : Int) := by rw [sl_one h, vN_one, bN_eq hb]
theorem vN_sl_nat {xs : List Int} (hb : By xs) (a k : Nat) : vN (sl xs a k) = ((vN (sl xs a k)).toNat : Int) := by
  have := vN_bnd (sl xs a k) ((hb.dropB a).take k)
  omega
def zr (m : Nat) : List Int := List.replicate m 0
theorem zr_len (m : Nat) : (zr m).length = m := by simp [zr]
theorem made_blkJ {w : World} {e : TypeId} {g n : Nat} (h : w.ownsRow 0 e 1 (.slice (some ⟨g, 0, none⟩) n n) n (List.replicate n (.int .u8 0))) : w.heap[g]? = some (.cells (bcs (zr n)).toArray e (0, 0)) := by
  rcases h.2 with ⟨h0, _⟩ | ⟨g', cap, cur, hv, _, hg, hnc, hcm, hcs, htake⟩
  · cases h0
  · cases hv
    rw [hg]
    have e1 : cur.toList = bcs (zr n) := by
      have : cur.toList.take (n * 1) = cur.toList := List.take_of_length_le (by rw [Array.length_toList, hcs]; omega)
      rw [← this, htake, bcs, zr, List.map_replicate]
    rw [← e1]
theorem splice_allJ (m : Nat) (cs : List Int) (h : cs.length = m) : splice (zr m) 0 cs = cs := by
  unfold splice
  rw [List.take_zero, List.nil_append, List.drop_of_length_le (by rw [zr_len]; omega), List.append_nil]
theorem info_u8J : (Try.prog.info? 5).map (fun i => (i.zero, i.size, i.bytes)) = some (some (.int .u8 0), 1, 1) := by kernel_rfl
theorem Fu.rdMid {w : World} {g : Nat} {xs : List Int} (h : Fu w g xs) : Rd .u8 w (.slice (some ⟨g, 12, none⟩) 240 244) ((xs.drop 12).take 240) := by
  have hl := h.2.1
  have e : ((xs.drop 12).take 240).length = 240 := by rw [List.length_take, List.length_drop]; omega
  refine ⟨_, 244, by rw [e], by omega, by unfold maxLen; omega, (fun e => by cases e), .inr ⟨g, 12, rfl, fun i hi => ?_⟩⟩
  rw [e] at hi
  rw [h.cell (by omega), List.getD_eq_getElem?_getD, List.getD_eq_getElem?_getD, List.getElem?_take, if_pos hi, List.getElem?_drop]

set_option maxHeartbeats 1000000 in
theorem pieceOf_any (xs : List Int) (w : World) (hl : xs.length = 256) (hb : By xs) :
    Calls Try.prog 56 #[.agg (bcs xs).toArray] w fun e w' => ∃ v, e = .returned (pcv (rdP xs) v) ∧ Wb w' v (rdP xs).ys ∧ Below w.heap.size w w' ∧ ∀ k, v.ownBlock = some k → w.heap.size ≤ k := by
  obtain ⟨j0, hj, hy0, hy1, hy2⟩ := info_parts info_u8J
  have HSL := slice_frm_lhU
  have HL : Hid (xs.length = 256) := hl
  have HB : Hid (By xs) := hb
  obtain ⟨W1, hW1⟩ : ∃ W1, w.alloc (.cells (bcs xs).toArray 79) = W1 := ⟨_, rfl⟩
  have F1 : Fu W1 w.heap.size xs := by rw [← hW1]; exact fv_newU w hl hb
  have s1 : W1.heap.size = w.heap.size + 1 := by rw [← hW1]; simp
  obtain ⟨X, hX⟩ : ∃ X, Hid ((bcs xs).toArray = X) := ⟨_, rfl⟩
  rw [hX.out] at hW1 ⊢
  obtain ⟨W2, hW2⟩ : ∃ W2, W1.alloc (.cells #[.int .i64 0, .int .i64 0, .int .i64 0, .int .i64 0, .slice none 0 0] 82) = W2 := ⟨_, rfl⟩
  have B12 : Below W1.heap.size W1 W2 := by rw [← hW2]; exact (Below.refl _ _).alloc (Nat.le_refl _) _
  have HB2 : Hid (Below w.heap.size w W2) := by rw [← hW2, ← hW1]; exact ((Below.refl _ _).alloc (Nat.le_refl _) _).alloc (by simp) _
  have HF2 : Hid (Fu W2 w.heap.size xs) := F1.below B12
  have HQ2 : Hid (Bo W2 (w.heap.size + 1) 82 [.int .i64 0, .int .i64 0, .int .i64 0, .int .i64 0, .slice none 0 0]) := by rw [← hW2, ← s1]; exact bo_new W1 _ _
  have HS2 : Hid (W2.heap.size = w.heap.size + 2) := by show _ = _; rw [← hW2]; simp [s1]
  obtain ⟨L, hL⟩ : ∃ L, Hid (bN xs 3 = L) := ⟨_, rfl⟩
  have hL2 : L < 256 := by rw [← hL.out]; exact bN_lt hb 3
  obtain ⟨g, hg⟩ : ∃ g, Hid (w.heap.size = g) := ⟨_, rfl⟩
  clear F1 B12 hl hb
  go_enter Try.func56, Try.ntmps56
  go_wp2_with fail
  rw [hg.out] at HF2 HQ2 HS2 HB2 ⊢
  refine (numberU_any g 3 1 xs W2 HF2.out (by decide) (by decide)).mono ?_
  rintro e w3 ⟨rfl, b3⟩
  rw [vN_sl_one HB.out (by rw [HL.out]; decide), hL.out]
  have HF3 : Hid (Fu w3 g xs) := HF2.out.below b3
  have HQ3 : Hid (Bo w3 (g + 1) 82 [.int .i64 0, .int .i64 0, .int .i64 0, .int .i64 0, .slice none 0 0]) := HQ2.out.below b3
  have HB3 : Hid (Below g w w3) := HB2.out.trans (b3.mono (by rw [HS2.out]; omega))
  have HG3 : Hid (g + 1 < w3.heap.size) := HQ3.out.lt
  clear b3 HF2 HQ2 HB2 HS2 hW1 hW2 s1
  by_cases hc : (240 : Int) < (L : Int)
  · have HK : Hid ((xs.drop 12).take 240 = (rdP xs).ys) := by show _ = _; show _ = (xs.drop 12).take (min (bN xs 3) 240); rw [hL.out]; congr 1; omega
    have HM2 : Hid (240 ≤ 240) := by show _ ≤ _; omega
    go_wp2_with (at_make; refine wpList_make_full _ rfl (.tmp 5) (.tmp 5) 36 rfl 0 5 j0 _ 1 Try.underlying36 hj hy0 hy1 .i64 .i64 _ _ 240 rfl rfl rfl rfl (by rw [hy2]; have := HM2.out; omega) (by unfold maxLen; have := HM2.out; omega) (Nat.zero_le _) ?_)
    intro w4 ho4 hg4
    have b4 : Below w3.heap.size w3 w4 := (Below.refl _ _).grown hg4 (Nat.le_refl _) (fun k e => by cases e)
    obtain ⟨h, hh⟩ : ∃ h, Hid (w3.heap.size = h) := ⟨_, rfl⟩
    rw [hh.out] at HG3 ⊢
    have M4 : Hid (w4.heap[h]? = some (.cells (bcs (zr 240)).toArray 5 (0, 0))) := by
      refine made_blkJ ?_
      have h3 := ho4
      rw [toList_madeCells_one, hh.out] at h3
      exact h3
    have HF4 : Hid (Fu w4 g xs) := HF3.out.below b4
    have HQ4 : Hid (Bo w4 (g + 1) 82 [.int .i64 0, .int .i64 0, .int .i64 0, .int .i64 0, .slice none 0 0]) := HQ3.out.below b4
    have HB4 : Hid (Below g w w4) := HB3.out.trans (b4.mono (by have := HG3.out; rw [hh.out]; omega))
    have HR4 : Hid (Rd .u8 w4 (.slice (some ⟨g, 12, none⟩) 240 244) ((xs.drop 12).take 240)) := HF4.out.rdMid
    have HBG : Hid (h ≤ h) := Nat.le_refl _
    have HBB : Hid (Below h w4 w4) := Below.refl _ _
    have HFT : Hid (0 + min ((xs.drop 12).take 240).length 240 ≤ (zr 240).length) := by show _ ≤ _; rw [zr_len]; omega
    clear ho4 hg4 b4 HF3 HQ3 HB3
    go_wp2_with (with_reducible (show wpList _ _ _ (Oper.mk _ (Op.call _) _ _ _ _ :: _) _ _); refine wpList_copyU w4 rfl (.tmp 7) (.tmp 8) rfl h 0 240 240 ?h3 _ _ M4.out _ _ ?h5 HR4.out HFT.out h w4 HBB.out HBG.out ?_; (case h3 => kernel_rfl); (case h5 => kernel_rfl))
    intro w5 M5 B5
    have e5 : splice (zr 240) 0 (((xs.drop 12).take 240).take 240) = (rdP xs).ys := by
      rw [List.take_take, Nat.min_eq_left HM2.out, HK.out, splice_allJ]
      rw [← HK.out, List.length_take, List.length_drop, HL.out]; have := HM2.out; omega
    rw [e5] at M5
    have HF5 : Hid (Fu w5 g xs) := ⟨by rw [B5.out.block g (by have := HG3.out; omega)]; exact HF4.out.1, HF4.out.2⟩
    have HQ5 : Hid (Bo w5 (g + 1) 82 [.int .i64 0, .int .i64 0, .int .i64 0, .int .i64 0, .slice none 0 0]) := HQ4.out.tch (S := fun k => h ≤ k) ⟨B5.out.os, B5.out.tape, B5.out.output, B5.out.size, fun k hk hn => B5.out.block k (Nat.lt_of_not_le hn)⟩ (by have := HG3.out; omega)
    have HB5 : Hid (Below g w w5) := HB4.out.trans (B5.out.mono (by have := HG3.out; omega))
    have hbl : Hid ((rdP xs).ys.length = 240) := by show _ = _; rw [← HK.out, List.length_take, List.length_drop, HL.out]; have := HM2.out; omega
    have HW5 : Hid (Wb w5 (.slice (some ⟨h, 0, none⟩) 240 240) (rdP xs).ys) := ⟨h, 240, _, _, by rw [hbl.out], by rw [hbl.out]; exact Nat.le_refl _, by unfold maxLen; have := HM2.out; omega, M5.out, by rw [List.toList_toArray, List.take_of_length_le (by rw [bcs_len]; exact Nat.le_refl _)]⟩
    clear HF4 HQ4 HB4 HR4 HBB M4 e5 HFT M5 B5
    generalize goInt (List.take 240 (List.take 240 (List.drop 12 xs))).length = gi
    go_wp2_with fail
    refine (numberU_any g 1 1 xs w5 HF5.out (by decide) (by decide)).mono ?_
    rintro e w6 ⟨rfl, b6⟩
    rw [vN_sl_one HB.out (by rw [HL.out]; decide), show bN xs 1 = (rdP xs).pl from rfl]
    have HF6 : Hid (Fu w6 g xs) := HF5.out.below b6
    have HQ6 : Hid (Bo w6 (g + 1) 82 [.int .i64 0, .int .i64 0, .int .i64 0, .int .i64 0, .slice none 0 0]) := HQ5.out.below b6
    have HB6 : Hid (Below g w w6) := HB5.out.trans (b6.mono (Nat.le_of_lt HF5.out.lt))
    have HW6 : Hid (Wb w6 (.slice (some ⟨h, 0, none⟩) 240 240) (rdP xs).ys) := HW5.out.tch (S := fun _ => False) (Tch.of_below b6) (fun _ _ e => e)
    clear b6 HF5 HQ5 HB5 HW5
    obtain ⟨x6, hx6⟩ : ∃ x, Hid ((rdP xs).pl = x) := ⟨_, rfl⟩
    rw [hx6.out]
    go_wp2_with fail
    refine (numberU_any g 2 1 xs w6 HF6.out (by decide) (by decide)).mono ?_
    rintro e w7 ⟨rfl, b7⟩
    rw [vN_sl_one HB.out (by rw [HL.out]; decide), show bN xs 2 = (rdP xs).mn from rfl]
    have HF7 : Hid (Fu w7 g xs) := HF6.out.below b7
    have HQ7 : Hid (Bo w7 (g + 1) 82 [.int .i64 0, .int .i64 0, .int .i64 0, .int .i64 0, .slice none 0 0]) := HQ6.out.below b7
    have HB7 : Hid (Below g w w7) := HB6.out.trans (b7.mono (Nat.le_of_lt HF6.out.lt))
    have HW7 : Hid (Wb w7 (.slice (some ⟨h, 0, none⟩) 240 240) (rdP xs).ys) := HW6.out.tch (S := fun _ => False) (Tch.of_below b7) (fun _ _ e => e)
    clear b7 HF6 HQ6 HB6 HW6
    obtain ⟨x7, hx7⟩ : ∃ x, Hid ((rdP xs).mn = x) := ⟨_, rfl⟩
    rw [hx7.out]
    go_wp2_with fail
    refine (numberU_any g 4 4 xs w7 HF7.out (by decide) (by decide)).mono ?_
    rintro e w8 ⟨rfl, b8⟩
    rw [vN_sl_nat HB.out, show (vN (sl xs 4 4)).toNat = (rdP xs).gen from rfl]
    have HF8 : Hid (Fu w8 g xs) := HF7.out.below b8
    have HQ8 : Hid (Bo w8 (g + 1) 82 [.int .i64 0, .int .i64 0, .int .i64 0, .int .i64 0, .slice none 0 0]) := HQ7.out.below b8
    have HB8 : Hid (Below g w w8) := HB7.out.trans (b8.mono (Nat.le_of_lt HF7.out.lt))
    have HW8 : Hid (Wb w8 (.slice (some ⟨h, 0, none⟩) 240 240) (rdP xs).ys) := HW7.out.tch (S := fun _ => False) (Tch.of_below b8) (fun _ _ e => e)
    clear b8 HF7 HQ7 HB7 HW7
    obtain ⟨x8, hx8⟩ : ∃ x, Hid ((rdP xs).gen = x) := ⟨_, rfl⟩
    rw [hx8.out]
    go_wp2_with fail
    refine (numberU_any g 8 4 xs w8 HF8.out (by decide) (by decide)).mono ?_
    rintro e w9 ⟨rfl, b9⟩
    rw [vN_sl_nat HB.out, show (vN (sl xs 8 4)).toNat = (rdP xs).num from rfl]
    have HF9 : Hid (Fu w9 g xs) := HF8.out.below b9
    have HQ9 : Hid (Bo w9 (g + 1) 82 [.int .i64 0, .int .i64 0, .int .i64 0, .int .i64 0, .slice none 0 0]) := HQ8.out.below b9
    have HB9 : Hid (Below g w w9) := HB8.out.trans (b9.mono (Nat.le_of_lt HF8.out.lt))
    have HW9 : Hid (Wb w9 (.slice (some ⟨h, 0, none⟩) 240 240) (rdP xs).ys) := HW8.out.tch (S := fun _ => False) (Tch.of_below b9) (fun _ _ e => e)
    clear b9 HF8 HQ8 HB8 HW8
    obtain ⟨x9, hx9⟩ : ∃ x, Hid ((rdP xs).num = x) := ⟨_, rfl⟩
    rw [hx9.out]
    have q0 := HQ9.out.cell (i := 0) rfl
    have q1 := HQ9.out.cell (i := 1) rfl
    have q2 := HQ9.out.cell (i := 2) rfl
    have q3 := HQ9.out.cell (i := 3) rfl
    have q4 := HQ9.out.cell (i := 4) rfl
    have f0 := HQ9.out.fz 0
    have f1 := HQ9.out.fz 1
    have f2 := HQ9.out.fz 2
    have f3 := HQ9.out.fz 3
    have f4 := HQ9.out.fz 4
    have HP := hideP (((((HQ9.out.set 0 (.int .i64 (x6 : Int))).set 1 (.int .i64 (x7 : Int))).set 2 (.int .i64 (x8 : Int))).set 3 (.int .i64 (x9 : Int))).set 4 (.slice (some ⟨h, 0, none⟩) 240 240))
    have HT := hideP (Tch.setCell (Tch.setCell (Tch.setCell (Tch.setCell (Tch.setCell (Tch.refl (fun k => k = g + 1) w9) (p := ⟨g + 1, 0, none⟩) (fun _ => rfl) (.int .i64 (x6 : Int))) (p := ⟨g + 1, 1, none⟩) (fun _ => rfl) (.int .i64 (x7 : Int))) (p := ⟨g + 1, 2, none⟩) (fun _ => rfl) (.int .i64 (x8 : Int))) (p := ⟨g + 1, 3, none⟩) (fun _ => rfl) (.int .i64 (x9 : Int))) (p := ⟨g + 1, 4, none⟩) (fun _ => rfl) (.slice (some ⟨h, 0, none⟩) 240 240))
    have HLD : Hid ((loadVar 82 ⟨g + 1, 0, none⟩).run Try.prog (((((w9.setCell ⟨g + 1, 0, none⟩ (.int .i64 (x6 : Int))).setCell ⟨g + 1, 1, none⟩ (.int .i64 (x7 : Int))).setCell ⟨g + 1, 2, none⟩ (.int .i64 (x8 : Int))).setCell ⟨g + 1, 3, none⟩ (.int .i64 (x9 : Int))).setCell ⟨g + 1, 4, none⟩ (.slice (some ⟨h, 0, none⟩) 240 240)) = .ok (pcv (rdP xs) (.slice (some ⟨h, 0, none⟩) 240 240)) (((((w9.setCell ⟨g + 1, 0, none⟩ (.int .i64 (x6 : Int))).setCell ⟨g + 1, 1, none⟩ (.int .i64 (x7 : Int))).setCell ⟨g + 1, 2, none⟩ (.int .i64 (x8 : Int))).setCell ⟨g + 1, 3, none⟩ (.int .i64 (x9 : Int))).setCell ⟨g + 1, 4, none⟩ (.slice (some ⟨h, 0, none⟩) 240 240))) := by
      have e := pc_load (p := rdP xs) (v := .slice (some ⟨h, 0, none⟩) 240 240) (by unfold pcs5; rw [hx6.out, hx7.out, hx8.out, hx9.out]; exact HP.out)
      exact e
    have HGG : Hid (g + 1 < h) := HG3
    go_wp2_with fail
    refine bodyPost_ret (v := pcv (rdP xs) (.slice (some ⟨h, 0, none⟩) 240 240)) (results_atU (p := 2) (ty := 82) rfl _ _ _ (g + 1) _ rfl HLD.out) rfl ?_
    refine ⟨_, rfl, HW9.out.tch HT.out (fun j hj e => by cases hj; have e2 : h = g + 1 := e; have := HGG.out; omega), ?_, fun k hk => by cases hk; rw [hg.out]; show g ≤ h; have := HGG.out; omega⟩
    rw [hg.out]
    exact HB9.out.trans (HT.out.below (Nat.le_of_lt HF9.out.lt) (fun k e => by rw [e]; omega))
  · have HK : Hid ((xs.drop 12).take L = (rdP xs).ys) := by show _ = _; show _ = (xs.drop 12).take (min (bN xs 3) 240); rw [hL.out]; congr 1; omega
    have HM2 : Hid (L ≤ 240) := by show _ ≤ _; omega
    go_wp2_with (at_make; refine wpList_make_full _ rfl (.tmp 5) (.tmp 5) 36 rfl 0 5 j0 _ 1 Try.underlying36 hj hy0 hy1 .i64 .i64 _ _ L rfl rfl rfl rfl (by rw [hy2]; have := HM2.out; omega) (by unfold maxLen; have := HM2.out; omega) (Nat.zero_le _) ?_)
    intro w4 ho4 hg4
    have b4 : Below w3.heap.size w3 w4 := (Below.refl _ _).grown hg4 (Nat.le_refl _) (fun k e => by cases e)
    obtain ⟨h, hh⟩ : ∃ h, Hid (w3.heap.size = h) := ⟨_, rfl⟩
    rw [hh.out] at HG3 ⊢
    have M4 : Hid (w4.heap[h]? = some (.cells (bcs (zr L)).toArray 5 (0, 0))) := by
      refine made_blkJ ?_
      have h3 := ho4
      rw [toList_madeCells_one, hh.out] at h3
      exact h3
    have HF4 : Hid (Fu w4 g xs) := HF3.out.below b4
    have HQ4 : Hid (Bo w4 (g + 1) 82 [.int .i64 0, .int .i64 0, .int .i64 0, .int .i64 0, .slice none 0 0]) := HQ3.out.below b4
    have HB4 : Hid (Below g w w4) := HB3.out.trans (b4.mono (by have := HG3.out; rw [hh.out]; omega))
    have HR4 : Hid (Rd .u8 w4 (.slice (some ⟨g, 12, none⟩) 240 244) ((xs.drop 12).take 240)) := HF4.out.rdMid
    have HBG : Hid (h ≤ h) := Nat.le_refl _
    have HBB : Hid (Below h w4 w4) := Below.refl _ _
    have HFT : Hid (0 + min ((xs.drop 12).take 240).length L ≤ (zr L).length) := by show _ ≤ _; rw [zr_len]; omega
    clear ho4 hg4 b4 HF3 HQ3 HB3
    go_wp2_with (with_reducible (show wpList _ _ _ (Oper.mk _ (Op.call _) _ _ _ _ :: _) _ _); refine wpList_copyU w4 rfl (.tmp 7) (.tmp 8) rfl h 0 L L ?h3 _ _ M4.out _ _ ?h5 HR4.out HFT.out h w4 HBB.out HBG.out ?_; (case h3 => kernel_rfl); (case h5 => kernel_rfl))
    intro w5 M5 B5
    have e5 : splice (zr L) 0 (((xs.drop 12).take 240).take L) = (rdP xs).ys := by
      rw [List.take_take, Nat.min_eq_left HM2.out, HK.out, splice_allJ]
      rw [← HK.out, List.length_take, List.length_drop, HL.out]; have := HM2.out; omega
    rw [e5] at M5
    have HF5 : Hid (Fu w5 g xs) := ⟨by rw [B5.out.block g (by have := HG3.out; omega)]; exact HF4.out.1, HF4.out.2⟩
    have HQ5 : Hid (Bo w5 (g + 1) 82 [.int .i64 0, .int .i64 0, .int .i64 0, .int .i64 0, .slice none 0 0]) := HQ4.out.tch (S := fun k => h ≤ k) ⟨B5.out.os, B5.out.tape, B5.out.output, B5.out.size, fun k hk hn => B5.out.block k (Nat.lt_of_not_le hn)⟩ (by have := HG3.out; omega)
    have HB5 : Hid (Below g w w5) := HB4.out.trans (B5.out.mono (by have := HG3.out; omega))
    have hbl : Hid ((rdP xs).ys.length = L) := by show _ = _; rw [← HK.out, List.length_take, List.length_drop, HL.out]; have := HM2.out; omega
    have HW5 : Hid (Wb w5 (.slice (some ⟨h, 0, none⟩) L L) (rdP xs).ys) := ⟨h, L, _, _, by rw [hbl.out], by rw [hbl.out]; exact Nat.le_refl _, by unfold maxLen; have := HM2.out; omega, M5.out, by rw [List.toList_toArray, List.take_of_length_le (by rw [bcs_len]; exact Nat.le_refl _)]⟩
    clear HF4 HQ4 HB4 HR4 HBB M4 e5 HFT M5 B5
    generalize goInt (List.take L (List.take 240 (List.drop 12 xs))).length = gi
    go_wp2_with fail
    refine (numberU_any g 1 1 xs w5 HF5.out (by decide) (by decide)).mono ?_
    rintro e w6 ⟨rfl, b6⟩
    rw [vN_sl_one HB.out (by rw [HL.out]; decide), show bN xs 1 = (rdP xs).pl from rfl]
    have HF6 : Hid (Fu w6 g xs) := HF5.out.below b6
    have HQ6 : Hid (Bo w6 (g + 1) 82 [.int .i64 0, .int .i64 0, .int .i64 0, .int .i64 0, .slice none 0 0]) := HQ5.out.below b6
    have HB6 : Hid (Below g w w6) := HB5.out.trans (b6.mono (Nat.le_of_lt HF5.out.lt))
    have HW6 : Hid (Wb w6 (.slice (some ⟨h, 0, none⟩) L L) (rdP xs).ys) := HW5.out.tch (S := fun _ => False) (Tch.of_below b6) (fun _ _ e => e)
    clear b6 HF5 HQ5 HB5 HW5
    obtain ⟨x6, hx6⟩ : ∃ x, Hid ((rdP xs).pl = x) := ⟨_, rfl⟩
    rw [hx6.out]
    go_wp2_with fail
    refine (numberU_any g 2 1 xs w6 HF6.out (by decide) (by decide)).mono ?_
    rintro e w7 ⟨rfl, b7⟩
    rw [vN_sl_one HB.out (by rw [HL.out]; decide), show bN xs 2 = (rdP xs).mn from rfl]
    have HF7 : Hid (Fu w7 g xs) := HF6.out.below b7
    have HQ7 : Hid (Bo w7 (g + 1) 82 [.int .i64 0, .int .i64 0, .int .i64 0, .int .i64 0, .slice none 0 0]) := HQ6.out.below b7
    have HB7 : Hid (Below g w w7) := HB6.out.trans (b7.mono (Nat.le_of_lt HF6.out.lt))
    have HW7 : Hid (Wb w7 (.slice (some ⟨h, 0, none⟩) L L) (rdP xs).ys) := HW6.out.tch (S := fun _ => False) (Tch.of_below b7) (fun _ _ e => e)
    clear b7 HF6 HQ6 HB6 HW6
    obtain ⟨x7, hx7⟩ : ∃ x, Hid ((rdP xs).mn = x) := ⟨_, rfl⟩
    rw [hx7.out]
    go_wp2_with fail
    refine (numberU_any g 4 4 xs w7 HF7.out (by decide) (by decide)).mono ?_
    rintro e w8 ⟨rfl, b8⟩
    rw [vN_sl_nat HB.out, show (vN (sl xs 4 4)).toNat = (rdP xs).gen from rfl]
    have HF8 : Hid (Fu w8 g xs) := HF7.out.below b8
    have HQ8 : Hid (Bo w8 (g + 1) 82 [.int .i64 0, .int .i64 0, .int .i64 0, .int .i64 0, .slice none 0 0]) := HQ7.out.below b8
    have HB8 : Hid (Below g w w8) := HB7.out.trans (b8.mono (Nat.le_of_lt HF7.out.lt))
    have HW8 : Hid (Wb w8 (.slice (some ⟨h, 0, none⟩) L L) (rdP xs).ys) := HW7.out.tch (S := fun _ => False) (Tch.of_below b8) (fun _ _ e => e)
    clear b8 HF7 HQ7 HB7 HW7
    obtain ⟨x8, hx8⟩ : ∃ x, Hid ((rdP xs).gen = x) := ⟨_, rfl⟩
    rw [hx8.out]
    go_wp2_with fail
    refine (numberU_any g 8 4 xs w8 HF8.out (by decide) (by decide)).mono ?_
    rintro e w9 ⟨rfl, b9⟩
    rw [vN_sl_nat HB.out, show (vN (sl xs 8 4)).toNat = (rdP xs).num from rfl]
    have HF9 : Hid (Fu w9 g xs) := HF8.out.below b9
    have HQ9 : Hid (Bo w9 (g + 1) 82 [.int .i64 0, .int .i64 0, .int .i64 0, .int .i64 0, .slice none 0 0]) := HQ8.out.below b9
    have HB9 : Hid (Below g w w9) := HB8.out.trans (b9.mono (Nat.le_of_lt HF8.out.lt))
    have HW9 : Hid (Wb w9 (.slice (some ⟨h, 0, none⟩) L L) (rdP xs).ys) := HW8.out.tch (S := fun _ => False) (Tch.of_below b9) (fun _ _ e => e)
    clear b9 HF8 HQ8 HB8 HW8
    obtain ⟨x9, hx9⟩ : ∃ x, Hid ((rdP xs).num = x) := ⟨_, rfl⟩
    rw [hx9.out]
    have q0 := HQ9.out.cell (i := 0) rfl
    have q1 := HQ9.out.cell (i := 1) rfl
    have q2 := HQ9.out.cell (i := 2) rfl
    have q3 := HQ9.out.cell (i := 3) rfl
    have q4 := HQ9.out.cell (i := 4) rfl
    have f0 := HQ9.out.fz 0
    have f1 := HQ9.out.fz 1
    have f2 := HQ9.out.fz 2
    have f3 := HQ9.out.fz 3
    have f4 := HQ9.out.fz 4
    have HP := hideP (((((HQ9.out.set 0 (.int .i64 (x6 : Int))).set 1 (.int .i64 (x7 : Int))).set 2 (.int .i64 (x8 : Int))).set 3 (.int .i64 (x9 : Int))).set 4 (.slice (some ⟨h, 0, none⟩) L L))
    have HT := hideP (Tch.setCell (Tch.setCell (Tch.setCell (Tch.setCell (Tch.setCell (Tch.refl (fun k => k = g + 1) w9) (p := ⟨g + 1, 0, none⟩) (fun _ => rfl) (.int .i64 (x6 : Int))) (p := ⟨g + 1, 1, none⟩) (fun _ => rfl) (.int .i64 (x7 : Int))) (p := ⟨g + 1, 2, none⟩) (fun _ => rfl) (.int .i64 (x8 : Int))) (p := ⟨g + 1, 3, none⟩) (fun _ => rfl) (.int .i64 (x9 : Int))) (p := ⟨g + 1, 4, none⟩) (fun _ => rfl) (.slice (some ⟨h, 0, none⟩) L L))
    have HLD : Hid ((loadVar 82 ⟨g + 1, 0, none⟩).run Try.prog (((((w9.setCell ⟨g + 1, 0, none⟩ (.int .i64 (x6 : Int))).setCell ⟨g + 1, 1, none⟩ (.int .i64 (x7 : Int))).setCell ⟨g + 1, 2, none⟩ (.int .i64 (x8 : Int))).setCell ⟨g + 1, 3, none⟩ (.int .i64 (x9 : Int))).setCell ⟨g + 1, 4, none⟩ (.slice (some ⟨h, 0, none⟩) L L)) = .ok (pcv (rdP xs) (.slice (some ⟨h, 0, none⟩) L L)) (((((w9.setCell ⟨g + 1, 0, none⟩ (.int .i64 (x6 : Int))).setCell ⟨g + 1, 1, none⟩ (.int .i64 (x7 : Int))).setCell ⟨g + 1, 2, none⟩ (.int .i64 (x8 : Int))).setCell ⟨g + 1, 3, none⟩ (.int .i64 (x9 : Int))).setCell ⟨g + 1, 4, none⟩ (.slice (some ⟨h, 0, none⟩) L L))) := by
      have e := pc_load (p := rdP xs) (v := .slice (some ⟨h, 0, none⟩) L L) (by unfold pcs5; rw [hx6.out, hx7.out, hx8.out, hx9.out]; exact HP.out)
      exact e
    have HGG : Hid (g + 1 < h) := HG3
    go_wp2_with fail
    refine bodyPost_ret (v := pcv (rdP xs) (.slice (some ⟨h, 0, none⟩) L L)) (results_atU (p := 2) (ty := 82) rfl _ _ _ (g + 1) _ rfl HLD.out) rfl ?_
    refine ⟨_, rfl, HW9.out.tch HT.out (fun j hj e => by cases hj; have e2 : h = g + 1 := e; have := HGG.out; omega), ?_, fun k hk => by cases hk; rw [hg.out]; show g ≤ h; have := HGG.out; omega⟩
    rw [hg.out]
    exact HB9.out.trans (HT.out.below (Nat.le_of_lt HF9.out.lt) (fun k e => by rw [e]; omega))
end Go.Proofs.Ytaacidgihhcpkaa
