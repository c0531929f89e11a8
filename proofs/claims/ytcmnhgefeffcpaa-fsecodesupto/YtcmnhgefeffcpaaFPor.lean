/-
  What of the size comes to each count.
-/
import Derived.Test.YtcmnhgefeffcpaaFSh1
import Derived.Test.YtcmnhgefeffcpaaFApz
namespace Go.Proofs.Ytcmnhgefeffcpaa
open Go.RowKit Pl
set_option linter.unusedVariables false

theorem wpList_appz (w : World) {ops : Array Oper} {rest : List Oper} {o : Oper} {a : Act} {Q : Exit → Act → World → Prop} (hgd : o.guard = none) (s x : Operand)
    (ho : o.op = .call { callee := .builtin .append, args := #[s, x], argTypes := #[22, 3] }) (v : Value) (xs : List Int) (hs : a.eval s = v) (hown : Owns .i64 3 w v xs) (n : Nat) (hx : a.eval x = .int .i64 (n : Int)) (hn : xs.length + n ≤ 4096)
    (h : ∀ v' w', Owns .i64 3 w' v' (xs ++ List.replicate n 0) → Grew w w' v v' → wpList Try.prog ops Q rest (a.put o.dst v') w') : wpList Try.prog ops Q (o :: rest) a w := by
  obtain ⟨v', w', hr, h2, h3⟩ := run_appz w o.type v xs n hown hn
  refine wpList_plain hgd fun K hK => ?_
  unfold Oper.wp
  simp [execOp, ho, resolve, invoke, builtin, hs, hx, hr, Result.andThen]
  exact hK _ _ (h v' w' h2 h3)

/-- What comes to the first k counts. -/
def por (c : List Int) (z all : Int) : Nat → List Int
  | 0 => []
  | k + 1 => if c.getD k 0 = 0 then por c z all k else por c z all k ++ List.replicate (k - (por c z all k).length) 0 ++ [max 1 (c.getD k 0 * z / all)]

theorem por_len (c : List Int) (z all : Int) (k : Nat) : (por c z all k).length ≤ k := by
  induction k with
  | zero => simp [por]
  | succ k ih =>
    simp only [por]
    split
    · omega
    · simp; omega

set_option maxRecDepth 100000 in
set_option maxHeartbeats 2000000 in
theorem portions_any (b o cap : Nat) (s : List Int) (z : Nat) (w : World) (h1 : s.length ≤ 64) (hz : z ≤ 512) (hb : ∀ i, i < s.length → 0 ≤ s.getD i 0 ∧ s.getD i 0 ≤ 4294967295) (hall : 0 < cumI s s.length)
    (hc : ∀ i, i < s.length → w.cell? ⟨b, o + i, none⟩ = some (.int .i64 (s.getD i 0))) :
    Calls Try.prog 63 #[.slice (some ⟨b, o, none⟩) s.length cap, .int .i64 z] w fun e w' => ∃ v', e = .returned v' ∧ Owns .i64 3 w' v' (por s z (cumI s s.length) s.length) ∧ Grew w w' (.slice none 0 0) v' := by
  have HC : Hid (∀ i, i < s.length → w.cell? ⟨b, o + i, none⟩ = some (.int .i64 (s.getD i 0))) := hc
  have HB : Hid (∀ i, i < s.length → 0 ≤ s.getD i 0 ∧ s.getD i 0 ≤ 4294967295) := hb
  have hsum := cumI_bd (M := 4294967295) (by omega) hb s.length (Nat.le_refl _)
  obtain ⟨A, hA⟩ : ∃ A, Hid (cumI s s.length = A) := ⟨_, rfl⟩
  rw [hA.out] at hall hsum ⊢
  have hA2 : A ≤ 274877906880 := by omega
  clear hc hb hsum
  go_enter Try.func63, Try.ntmps63
  go_wp2_with fail
  refine (sumOf_any b o cap s w h1 HB.out HC.out).mono ?_
  rintro e w1 ⟨rfl, rfl⟩
  rw [hA.out]
  go_wp2_with fail
  go_loopw [6, 13] (fun r i wr => ∃ k : Nat, k ≤ s.length ∧ i = .int .i64 k ∧ Hid (Owns .i64 3 wr r (por s z A k)) ∧ Hid (Grew w1 wr (.slice none 0 0) r)) (fun _ i _ => s.length - (intOf i).toNat)
  case atStart => exact ⟨0, Nat.zero_le _, rfl, owns_nil _ _ _, Grew.refl _ _⟩
  case round =>
    obtain ⟨k, hk, rfl, HO, HG⟩ := hrel
    obtain ⟨ra, rc, hrv⟩ : ∃ a c, u6 = .slice a (por s z A k).length c := by obtain ⟨a, c, e, _⟩ := HO.out.rd; exact ⟨a, c, e⟩
    subst hrv
    have hpl := por_len s z A k
    obtain ⟨Lp, hLp⟩ : ∃ Lp, Hid ((por s z A k).length = Lp) := ⟨_, rfl⟩
    rw [hLp.out] at hpl HO HG ⊢
    by_cases hlt : k < s.length
    · obtain ⟨x, hxe⟩ : ∃ x, Hid (s.getD k 0 = x) := ⟨_, rfl⟩
      have hx := HB.out k hlt
      rw [hxe.out] at hx
      have cx : wr.cell? ⟨b, o + k, none⟩ = some (.int .i64 x) := by
        have h := HC.out k hlt
        rw [HG.out.below.1.cell (p := ⟨b, o + k, none⟩) (World.block_lt_of_cell? w1 ⟨b, o + k, none⟩ h), h, hxe.out]
      by_cases hx0 : x = 0
      · have hxb : (x == 0) = true := by simp [hx0]
        have HP : Hid (por s z A (k + 1) = por s z A k) := by show _ = _; simp only [por]; rw [hxe.out, if_pos hx0]
        clear hx0
        go_wp2_with fail
        go_roundw
        case rel => exact ⟨k + 1, by omega, by go_num, by rw [HP.out]; exact HO, HG⟩
        case measure => simp [intOf]; omega
      · have hxb : (x == 0) = false := by simp [hx0]
        obtain ⟨D, hD⟩ : ∃ D, Hid (k - Lp = D) := ⟨_, rfl⟩
        have hDI : (k : Int) - (Lp : Int) = (D : Int) := by rw [← hD.out]; omega
        have hD2 : Lp + D = k := by rw [← hD.out]; omega
        obtain ⟨q, hq⟩ : ∃ q, Hid (x * z = q) := ⟨_, rfl⟩
        have hq1 : 0 ≤ x * (z : Int) := Int.mul_nonneg hx.1 (by omega)
        have hq2 : x * (z : Int) ≤ 4294967295 * 512 := Int.mul_le_mul hx.2 (by omega) (by omega) (by omega)
        have hqI : x * (z : Int) = q := hq.out
        rw [hqI] at hq1 hq2
        obtain ⟨t, ht⟩ : ∃ t, Hid (q / A = t) := ⟨_, rfl⟩
        have ht1 : 0 ≤ t := by rw [← ht.out]; exact Int.ediv_nonneg hq1 (by omega)
        have ht2 : t ≤ q := by rw [← ht.out]; exact Int.ediv_le_self _ hq1
        have HP : Hid (por s z A (k + 1) = por s z A k ++ List.replicate D 0 ++ [max 1 t]) := by show _ = _; simp only [por]; rw [hxe.out, if_neg hx0, hLp.out, hD.out, hqI, ht.out]
        have htI : q / A = t := ht.out
        clear hx0
        go_wp2_with (at_builtin; refine wpList_appz _ rfl (.tmp 20) (.tmp 24) rfl _ (por s z A k) rfl HO.out D rfl (by rw [hLp.out]; omega) ?_)
        intro v2 w2 ho2 hg2
        have HO2 : Hid (Owns .i64 3 w2 v2 (por s z A k ++ List.replicate D 0)) := ho2
        have HG2 : Hid (Grew w1 w2 (.slice none 0 0) v2) := HG.out.trans hg2
        have HL2 : Hid ((por s z A k ++ List.replicate D 0).length = k) := by show _ = _; rw [List.length_append, List.length_replicate, hLp.out]; exact hD2
        clear ho2 hg2 HO HG cx
        by_cases hgt : 1 < t
        · rw [Int.max_eq_right (by omega)] at HP
          go_wp2_with (at_builtin; refine wpList_push _ rfl (.tmp 26) (.tmp 33) 22 rfl 3 .i64 8 elem64 _ (por s z A k ++ List.replicate D 0) rfl HO2.out t rfl (by rw [HL2.out]; omega) (by rw [HL2.out]; omega) ?_)
          intro v3 w3 ho3 hg3
          rw [← List.append_assoc, ← HP.out] at ho3
          have HO3 : Hid (Owns .i64 3 w3 v3 (por s z A (k + 1))) := ho3
          have HG3 : Hid (Grew w1 w3 (.slice none 0 0) v3) := HG2.out.trans hg3
          clear ho3 hg3 HO2 HG2
          go_wp2_with fail
          go_roundw
          case rel => exact ⟨k + 1, by omega, by go_num, HO3, HG3⟩
          case measure => simp [intOf]; omega
        · rw [Int.max_eq_left (by omega)] at HP
          have hle : t ≤ 1 := by omega
          clear hgt
          go_wp2_with (at_builtin; refine wpList_push _ rfl (.tmp 26) (.tmp 33) 22 rfl 3 .i64 8 elem64 _ (por s z A k ++ List.replicate D 0) rfl HO2.out 1 rfl (by rw [HL2.out]; omega) (by rw [HL2.out]; omega) ?_)
          intro v3 w3 ho3 hg3
          rw [← List.append_assoc, ← HP.out] at ho3
          have HO3 : Hid (Owns .i64 3 w3 v3 (por s z A (k + 1))) := ho3
          have HG3 : Hid (Grew w1 w3 (.slice none 0 0) v3) := HG2.out.trans hg3
          clear ho3 hg3 HO2 HG2
          go_wp2_with fail
          go_roundw
          case rel => exact ⟨k + 1, by omega, by go_num, HO3, HG3⟩
          case measure => simp [intOf]; omega
    · obtain rfl : k = s.length := by omega
      go_wp2_with fail
      go_ret
      exact ⟨_, rfl, HO.out, HG.out⟩
end Go.Proofs.Ytcmnhgefeffcpaa
