/-
  The document's number, put and read; two superblocks compared.
-/
import Derived.Test.YtdicgaepggffbaaUSet
import Derived.Test.YtdicgaepggffbaaUMem
import Derived.Test.YtdicgaepggffbaaSame
import Derived.ArgAppend
namespace Go.Proofs.Ytdicgaepggffbaa
open Go.RowKit Pl
set_option linter.unusedVariables false
set_option linter.unusedSimpArgs false
set_option maxRecDepth 100000

/-- A full row that can be read. -/
def Ful (w : World) (v : Value) (xs : List Int) : Prop := ∃ b, v = .slice (some ⟨b, 0, none⟩) xs.length xs.length ∧ ∀ i, i < xs.length → w.cell? ⟨b, i, none⟩ = some (.int .u8 (xs.getD i 0))
def Ow2 (w : World) (v : Value) (xs : List Int) : Prop := Owns .u8 5 w v xs ∨ Ful w v xs
theorem owns_base {w : World} {base : Nat} {e : TypeId} {size n : Nat} {v : Value} {xs : List Value} (h : w.ownsRow base e size v n xs) : w.ownsRow 0 e size v n xs := by
  refine ⟨h.1, ?_⟩
  rcases h.2 with h | ⟨g, cap, cur, a, _, r⟩
  · exact .inl h
  · exact .inr ⟨g, cap, cur, a, Nat.zero_le _, r⟩
/-- 'append(v, x)' onto either. -/
theorem wpList_push2 (w : World) {ops : Array Oper} {rest : List Oper} {o : Oper} {a : Act} {Q : Exit → Act → World → Prop} (hgd : o.guard = none) (s x : Operand)
    (ho : o.op = .call { callee := .builtin .append, args := #[s, x], argTypes := #[25, 25] })
    (v : Value) (xs : List Int) (hs : a.eval s = v) (hown : Ow2 w v xs) (y : Int) (hx : a.eval x = .slice (some ⟨w.heap.size, 0, none⟩) 1 1) (hl : xs.length ≤ 100000)
    (h : ∀ v' w', Owns .u8 5 w' v' (xs ++ [y]) → Grew w w' v v' → wpList Try.prog ops Q rest (a.put o.dst v') w') : wpList Try.prog ops Q (o :: rest) a (w.alloc (.cells #[.int .u8 y] 5)) := by
  rcases hown with hown | ⟨b, rfl, hc⟩
  · exact wpList_push w hgd s x 25 ho 5 .u8 1 elem8 v xs hs hown y hx (by omega) (by omega) h
  · obtain ⟨ht, i, hi, hz, h1, hb⟩ := elem8
    refine wpList_append_grows (w.alloc (.cells #[.int .u8 y] 5)) hgd s x 25 ho 5 i (.int .u8 0) 1 1 ht hi hz h1 hb rfl (by decide) (some ⟨b, 0, none⟩) xs.length xs.length (xs.map (Value.int .u8)) hs (fun e => by cases e) (by simp) (fun p hp j u hj => ?_)
      ⟨w.heap.size, 0, none⟩ 1 1 [.int .u8 y] hx rfl (fun j u hj => ?_) (fun u hu => by simp at hu; subst hu; rfl) (by omega) (by unfold maxLen; omega) (by omega) ?_
    · cases hp
      have hjl : j < xs.length := by have := (List.getElem?_eq_some_iff.1 hj).1; simpa using this
      have h0 := hc j hjl
      have hlt := World.block_lt_of_cell? w ⟨b, j, none⟩ h0
      have hBe : Below w.heap.size w (w.alloc (.cells #[.int .u8 y] 5)) := (Below.refl _ _).alloc (Nat.le_refl _) _
      rw [Addr.add_lit, Nat.zero_add, hBe.cell (p := ⟨b, j, none⟩) hlt, h0]
      rw [List.getElem?_map, List.getElem?_eq_getElem hjl] at hj
      rw [List.getD_eq_getElem?_getD, List.getElem?_eq_getElem hjl]
      exact hj
    · match j, hj with
      | 0, hj => simp at hj; subst hj; simp [Addr.add]
    · intro v' w' h2 h3
      refine h v' w' (by unfold Owns; simpa using owns_base h2) ⟨Tch.grown ((Tch.refl _ w).alloc _) h3 (fun _ _ e => by cases e), fun k hk => .inr ?_⟩
      have h4 := (h2.lt k hk).1
      have h5 : (w.alloc (.cells #[.int .u8 y] 5)).heap.size = w.heap.size + 1 := by simp
      omega

set_option maxHeartbeats 400000 in
theorem refNumber_any (v : Value) (xs : List Int) (N k : Nat) (w : World) (ho : Ow2 w v xs) (hN : N < 9223372036854775807) (hk1 : 1 ≤ k) (hk : k ≤ 4) (hx : xs.length ≤ 1000) :
    Calls Try.prog 36 #[v, .int .i64 (N : Int), .int .i64 (k : Int)] w fun e w' => ∃ v', e = .returned v' ∧ Owns .u8 5 w' v' (xs ++ leN k (N : Int)) ∧ Grew w w' v v' := by
  have HO : Hid (Ow2 w v xs) := ho
  clear ho
  go_enter Try.func36, Try.ntmps36
  go_wp2_with fail
  go_loopw [0, 1, 7] (fun ov nv i wr => ∃ (j Y : Nat) (v0 : Value), j ≤ k ∧ v0 = ov ∧ nv = .int .i64 (Y : Int) ∧ i = .int .i64 j ∧ Y < 9223372036854775807 ∧ Hid (N / 256 ^ j = Y) ∧ Hid (Ow2 wr v0 (xs ++ leN j (N : Int)) ∧ (0 < j → Owns .u8 5 wr v0 (xs ++ leN j (N : Int)))) ∧ Hid (Grew w wr v v0)) (fun _ _ i _ => k - (intOf i).toNat)
  case atStart => exact ⟨0, N, v, Nat.zero_le _, rfl, rfl, rfl, hN, by rw [Nat.pow_zero, Nat.div_one]; rfl, ⟨by rw [show leN 0 (N : Int) = [] from rfl, List.append_nil]; exact HO.out, fun e => by omega⟩, Grew.refl _ _⟩
  case round =>
    clear HO
    obtain ⟨j, Y, v0, hj, rfl, rfl, rfl, hY, HY, O, G⟩ := hrel
    by_cases hlt : j < k
    · have hjk : (j : Int) < (k : Int) := by omega
      obtain ⟨b, hb⟩ : ∃ b, Y % 256 = b := ⟨_, rfl⟩
      obtain ⟨Z, hZ⟩ : ∃ Z, Y / 256 = Z := ⟨_, rfl⟩
      have t1 : (Y : Int).tmod 256 = (b : Int) := by rw [Int.tmod_eq_emod_of_nonneg (by omega)]; omega
      have t2 : (Y : Int).tdiv 256 = (Z : Int) := by rw [Int.tdiv_eq_ediv_of_nonneg (by omega)]; omega
      have hb2 : (b : Int) < 256 := by omega
      have hZ2 : Z < 9223372036854775807 := by omega
      have HLN : Hid ((xs ++ leN j (N : Int)).length ≤ 1004) := by show _ ≤ _; rw [List.length_append, leN_len]; omega
      have HE : Hid (xs ++ (leN j (N : Int) ++ [(b : Int)]) = xs ++ leN (j + 1) (N : Int)) := by
        show _ = _
        have e : (N : Int) / 256 ^ j % 256 = (b : Int) := by
          rw [← hb, ← HY.out, Int.natCast_emod, Int.natCast_ediv, Int.natCast_pow]
          rfl
        rw [leN_succ, e]
      have OX : Hid (Ow2 wr v0 (xs ++ leN j (N : Int))) := O.out.1
      have HZ : Hid (N / 256 ^ (j + 1) = Z) := by show _ = _; rw [Nat.pow_succ, ← Nat.div_div_eq_div_mul, HY.out, hZ]
      clear hb hZ HY
      go_wp2_with (at_builtin; refine wpList_push2 _ rfl (.tmp 13) (.tmp 17) rfl _ (xs ++ leN j (N : Int)) rfl OX.out (b : Int) rfl (by have := HLN.out; omega) ?_)
      intro v2 w2 o2 g2
      rw [HE.out] at o2
      have O2 : Hid (Ow2 w2 v2 (xs ++ leN (j + 1) (N : Int)) ∧ (0 < j + 1 → Owns .u8 5 w2 v2 (xs ++ leN (j + 1) (N : Int)))) := ⟨.inl o2, fun _ => o2⟩
      have G2 : Hid (Grew w w2 v v2) := G.out.trans g2
      clear o2 g2 O OX G HE HLN
      go_wp2_with fail
      go_roundw
      case rel => exact ⟨j + 1, Z, _, by omega, rfl, rfl, by go_num, hZ2, HZ, O2, G2⟩
      case measure => simp [intOf]; omega
    · have hjk : ¬ (j : Int) < (k : Int) := by omega
      have hjk2 : j = k := by omega
      rw [hjk2] at O
      clear hjk2
      go_wp2_with fail
      go_ret
      exact ⟨_, rfl, O.out.2 (by omega), G.out⟩

theorem vN_cons_sl {xs : List Int} {i : Nat} (h : i < xs.length) : vN (xs.drop i) = xs.getD i 0 + 256 * vN (xs.drop (i + 1)) := by
  rw [List.drop_eq_getElem_cons h, List.getD_eq_getElem?_getD, List.getElem?_eq_getElem h]
  rfl

set_option maxHeartbeats 400000 in
theorem refValue_any (v : Value) (xs : List Int) (w : World) (hr : Rd .u8 w v xs) (hb : By xs) (hx : xs.length ≤ 4) :
    Calls Try.prog 42 #[v] w fun e w' => e = .returned (.int .i64 (vN xs)) ∧ w' = w := by
  obtain ⟨a, cap, rfl, _, _, _, hcc⟩ := id hr
  have HC : Hid (xs = [] ∨ ∃ b o, a = some ⟨b, o, none⟩ ∧ ∀ i, i < xs.length → w.cell? ⟨b, o + i, none⟩ = some (.int .u8 (xs.getD i 0))) := hcc
  have HB : Hid (By xs) := hb
  obtain ⟨R, hR⟩ : ∃ R, Hid (vN xs = R) := ⟨_, rfl⟩
  rw [hR.out]
  obtain ⟨l, hl⟩ : ∃ l, Hid (xs.length = l) := ⟨_, rfl⟩
  rw [hl.out] at hx HC ⊢
  clear hr hb hcc
  go_enter Try.func42, Try.ntmps42
  go_wp2_with fail
  go_loopw [3, 4] (fun nv iv wr => ∃ (k Y : Nat) (i : Int), k ≤ l ∧ i = (k : Int) - 1 ∧ iv = .int .i64 i ∧ nv = .int .i64 (Y : Int) ∧ Y < 4294967296 ∧ Hid (vN (xs.drop k) = (Y : Int) ∧ Y < 256 ^ (l - k)) ∧ Hid (wr = w)) (fun _ iv _ => (intOf iv + 1).toNat)
  case atStart => exact ⟨l, 0, (l : Int) - 1, Nat.le_refl _, rfl, by first | rfl | go_num, rfl, by decide, ⟨by rw [List.drop_of_length_le (by rw [hl.out]; exact Nat.le_refl _)]; rfl, by simp⟩, rfl⟩
  case round =>
    obtain ⟨k, Y, i, hk, hi, rfl, rfl, hY, HY, B⟩ := hrel
    by_cases h0 : 0 < k
    · obtain ⟨j, rfl⟩ : ∃ j, k = j + 1 := ⟨k - 1, by omega⟩
      obtain rfl : i = (j : Int) := by omega
      have hjl : j < xs.length := by rw [hl.out]; omega
      obtain ⟨ab, ao, ha, hc⟩ : ∃ b o, a = some ⟨b, o, none⟩ ∧ ∀ i, i < l → w.cell? ⟨b, o + i, none⟩ = some (.int .u8 (xs.getD i 0)) := by
        rcases HC.out with e | h
        · rw [e] at hjl; simp at hjl
        · exact h
      subst ha
      obtain ⟨b, hb⟩ : ∃ b : Nat, Hid (xs.getD j 0 = (b : Int) ∧ b < 256) := by
        have := HB.out j
        exact ⟨(xs.getD j 0).toNat, by omega, by omega⟩
      have hb1 := hb.out.2
      have cx : wr.cell? ⟨ab, ao + j, none⟩ = some (.int .u8 (b : Int)) := by
        have h0 := hc j (by omega)
        rw [B.out, h0, hb.out.1]
      have hjl2 : (j : Int) < (l : Int) := by omega
      obtain ⟨Z, hZ⟩ : ∃ Z, 256 * Y + b = Z := ⟨_, rfl⟩
      have hZ1 : 256 * (Y : Int) + (b : Int) = (Z : Int) := by omega
      have hZ2 : Z < 256 ^ (l - j) := by
        have := HY.out.2
        rw [show l - j = (l - (j + 1)) + 1 by omega, Nat.pow_succ]
        omega
      have hZ3 : 256 ^ (l - j) ≤ 256 ^ 4 := Nat.pow_le_pow_right (by decide) (by omega)
      have hZ4 : Z < 4294967296 := by
        have : (256 : Nat) ^ 4 = 4294967296 := rfl
        omega
      have HZ : Hid (vN (xs.drop j) = (Z : Int) ∧ Z < 256 ^ (l - j)) := by
        refine ⟨?_, hZ2⟩
        rw [vN_cons_sl hjl, HY.out.1, hb.out.1]
        omega
      clear hc HY hi hZ hZ2 hZ3 hjl
      have hYb : (Y : Int) < 4294967296 := by omega
      obtain ⟨Y2, hY2⟩ : ∃ Y2, 256 * Y = Y2 := ⟨_, rfl⟩
      have hY3 : 256 * (Y : Int) = (Y2 : Int) := by omega
      have hY4 : (Y2 : Int) + (b : Int) = (Z : Int) := by omega
      have hY5 : (Y2 : Int) < 1099511627776 := by omega
      clear hY2
      go_wp2_with fail
      go_roundw
      case rel => exact ⟨j, Z, (j : Int) - 1, by omega, rfl, by first | rfl | go_num, by first | rfl | go_num, hZ4, HZ, B⟩
      case measure => simp [intOf]
    · have hk0 : k = 0 := by omega
      have hi2 : i = -1 := by omega
      subst hi2
      have HE : Hid ((Y : Int) = R) := by
        show _ = _
        rw [← hR.out, ← HY.out.1, hk0, List.drop_zero]
      clear HY hi hk0
      go_wp2_with fail
      go_ret
      exact ⟨by rw [← HE.out]; rfl, B.out⟩
end Go.Proofs.Ytdicgaepggffbaa
