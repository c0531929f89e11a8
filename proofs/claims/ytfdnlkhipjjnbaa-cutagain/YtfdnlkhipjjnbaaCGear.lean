/-
  The program's gears: of one byte, of those that stand somewhere; how a mark goes on.
-/
import Derived.Test.YtfdnlkhipjjnbaaCPl
namespace Go.Proofs.Ytfdnlkhipjjnbaa
open Go.RowKit Pl
set_option linter.unusedVariables false

theorem gear_or (a b c d : Nat) (ha : a < 256) (hb : b < 256) (hc : c < 256) (hd : d < 256) :
    Go.bits .or .u32 (a : Int) ((b : Int) * 256) = ((a + 256 * b : Nat) : Int) ∧
    Go.bits .or .u32 ((a + 256 * b : Nat) : Int) ((c : Int) * 65536) = ((a + 256 * b + 65536 * c : Nat) : Int) ∧
    Go.bits .or .u32 ((a + 256 * b + 65536 * c : Nat) : Int) ((d : Int) * 16777216) = ((a + 256 * b + 65536 * c + 16777216 * d : Nat) : Int) := by
  refine ⟨?_, ?_, ?_⟩
  · rw [show (b : Int) * 256 = ((b * 256 : Nat) : Int) by omega, u32_or_nat _ _ (by omega) (by omega), Nat.or_comm, nat_join 8 _ _ (by omega) (by omega)]; omega
  · rw [show (c : Int) * 65536 = ((c * 65536 : Nat) : Int) by omega, u32_or_nat _ _ (by omega) (by omega), Nat.or_comm, nat_join 16 _ _ (by omega) (by omega)]; omega
  · rw [show (d : Int) * 16777216 = ((d * 16777216 : Nat) : Int) by omega, u32_or_nat _ _ (by omega) (by omega), Nat.or_comm, nat_join 24 _ _ (by omega) (by omega)]; omega

theorem by_one {b : Nat} (hb : b < 256) : By [(b : Int)] := fun i => by
  match i with
  | 0 => show (0 : Int) ≤ b ∧ (b : Int) ≤ 255; omega
  | n + 1 => simp
theorem rd_one (w : World) (b : Nat) : Rd .u8 (w.alloc (.cells #[.int .u8 (b : Int)] 5)) (.slice (some ⟨w.heap.size, 0, none⟩) 1 1) [(b : Int)] := by
  refine ⟨_, 1, rfl, Nat.le_refl _, by unfold maxLen; decide, fun e => (by cases e), .inr ⟨w.heap.size, 0, rfl, fun i hi => ?_⟩⟩
  have h := (uv_new .u8 w 5 1 (fun _ => b)).at_ i hi
  have : i = 0 := by simp at hi; exact hi
  subst this
  exact h

set_option maxRecDepth 100000 in
set_option maxHeartbeats 2000000 in
theorem gear_any (b : Nat) (w : World) (hb : b < 256) :
    Calls Try.prog 28 #[.int .u8 (b : Int)] w fun e w' => e = .returned (.int .u32 (gr b : Int)) ∧ Below w.heap.size w w' := by
  obtain ⟨hv32, hi32⟩ := zero_of_info info_32
  have HI32 : Hid ((Try.prog.info? 23).map (·.size) = some 32) := hi32
  obtain ⟨Z32, hZ32⟩ : ∃ Z, Hid ((ucs .u8 32 (fun _ => 0)).toArray = Z) := ⟨_, rfl⟩
  rw [hZ32.out] at hv32
  have HZ32 : Hid (Z32.size = 32) := by show _ = _; rw [← hZ32.out]; exact ucs_size _ _ _
  obtain ⟨F, hF⟩ : ∃ F, Hid (ucs .u8 32 (sha [(b : Int)]) = F) := ⟨_, rfl⟩
  have HSZ : Hid (F.toArray.size = 32) := by show _ = _; rw [← hF.out]; exact ucs_size _ _ _
  have HON : Hid (F.toArray.all (·.oneCell') = true) := by show _ = _; rw [← hF.out]; exact ucs_one _ _ _
  clear hi32
  go_enter Try.func28, Try.ntmps28
  go_wp2_with fail
  refine (sha_any _ [(b : Int)] _ (rd_one w b) (by_one hb) (by simp)).mono ?_
  rintro e w1 ⟨rfl, b1⟩
  rw [hF.out]
  have B1 : Hid (Below w.heap.size w w1) := ((Below.refl _ w).alloc (Nat.le_refl _) _).trans (b1.mono (by simp))
  clear b1
  have u2 := uv_new .u8 w1 23 32 (sha [(b : Int)])
  rw [hF.out] at u2
  have B2 : Hid (Below w.heap.size w (w1.alloc (.cells F.toArray 23))) := B1.out.alloc B1.out.size _
  have c0 := u2.at_ 0 (by decide)
  have c1 := u2.at_ 1 (by decide)
  have c2 := u2.at_ 2 (by decide)
  have c3 := u2.at_ 3 (by decide)
  have l0 := sha_lt [(b : Int)] 0
  have l1 := sha_lt [(b : Int)] 1
  have l2 := sha_lt [(b : Int)] 2
  have l3 := sha_lt [(b : Int)] 3
  have hG : gr b = sha [(b : Int)] 0 + 256 * sha [(b : Int)] 1 + 65536 * sha [(b : Int)] 2 + 16777216 * sha [(b : Int)] 3 := rfl
  generalize sha [(b : Int)] 0 = s0 at c0 l0 hG
  generalize sha [(b : Int)] 1 = s1 at c1 l1 hG
  generalize sha [(b : Int)] 2 = s2 at c2 l2 hG
  generalize sha [(b : Int)] 3 = s3 at c3 l3 hG
  obtain ⟨o1, o2, o3⟩ := gear_or s0 s1 s2 s3 l0 l1 l2 l3
  obtain ⟨X1, hX1⟩ : ∃ X, s0 + 256 * s1 = X := ⟨_, rfl⟩
  rw [hX1] at o1 o2 o3 hG
  obtain ⟨X2, hX2⟩ : ∃ X, X1 + 65536 * s2 = X := ⟨_, rfl⟩
  rw [hX2] at o2 o3 hG
  obtain ⟨X3, hX3⟩ : ∃ X, X2 + 16777216 * s3 = X := ⟨_, rfl⟩
  rw [hX3] at o3 hG
  have HG : Hid (gr b = X3) := hG
  clear u2 B1 hG hX1 hX2
  have q1 : IntKind.u32.wrap ((s1 : Int) * 256) = (s1 : Int) * 256 := by rw [IntKind.wrap_u32']; omega
  have q2 : IntKind.u32.wrap ((s2 : Int) * 65536) = (s2 : Int) * 65536 := by rw [IntKind.wrap_u32']; omega
  have q3 : IntKind.u32.wrap ((s3 : Int) * 16777216) = (s3 : Int) * 16777216 := by rw [IntKind.wrap_u32']; omega
  have p1 : (s1 : Int) * 256 % 4294967296 = (s1 : Int) * 256 := by omega
  have p2 : (s2 : Int) * 65536 % 4294967296 = (s2 : Int) * 65536 := by omega
  have p3 : (s3 : Int) * 16777216 % 4294967296 = (s3 : Int) * 16777216 := by omega
  go_wp2_with (with_reducible (show wpList _ _ _ (Oper.mk _ (Op.store _ _ _) _ _ _ _ :: _) _ _); refine wpList_store_newS w1 rfl 23 (.tmp 3) (.tmp 6) rfl Z32 F.toArray ?h1 ?h2 (by rw [HSZ.out]; exact HI32.out) (by rw [HSZ.out, HZ32.out]) HON.out ?_; (case h1 => kernel_rfl); (case h2 => kernel_rfl))
  go_ret
  exact ⟨by rw [HG.out]; rfl, B2.out⟩

set_option maxRecDepth 100000 in
set_option maxHeartbeats 1000000 in
theorem gearB_any (b : Nat) (w : World) (hb : b < 256) :
    Calls Try.prog 15 #[.int .u8 (b : Int)] w fun e w' => e = .returned (.int .i64 (gr b : Int)) ∧ Below w.heap.size w w' := by
  have hG := gr_lt b
  have HG : Hid (∀ W, Calls Try.prog 28 #[.int .u8 (b : Int)] W fun e w' => e = .returned (.int .u32 (gr b : Int)) ∧ Below W.heap.size W w') := fun W => gear_any b W hb
  generalize gr b = G at *
  go_enter Try.func15, Try.ntmps15
  go_wp2_with fail
  refine (HG.out _).mono ?_
  rintro e w1 ⟨rfl, b1⟩
  have h1 : IntKind.i64.wrap (G : Int) = (G : Int) := by rw [IntKind.wrap_i64]; omega
  go_wp2_with fail
  go_ret
  exact ⟨rfl, b1⟩

/-- How a mark goes on. -/
theorem goOn_any (g m b V : Nat) (c : Nat → Nat) (w : World) (hg : Uv .u32 w g 46 256 c) (hm : m < 4294967296) (hb : b < 256) (hc : c b < 4294967296) (hV : (2 * m + c b) % 4294967296 = V) :
    Calls Try.prog 29 #[.pointer (some ⟨g, 0, none⟩), .int .u32 (m : Int), .int .u8 (b : Int)] w fun e w' => e = .returned (.int .u32 (V : Int)) ∧ w' = w := by
  have c1 := hg.at_ b hb
  generalize c b = x at *
  have hi : (b : Int) < 256 := by omega
  have e1 : (2 * (m : Int)) % 4294967296 = ((2 * m % 4294967296 : Nat) : Int) := by omega
  obtain ⟨y, hy⟩ : ∃ y, 2 * m % 4294967296 = y := ⟨_, rfl⟩
  rw [hy] at e1
  have e2 : ((y : Int) + (x : Int)) % 4294967296 = (V : Int) := by omega
  have w1 : IntKind.u32.wrap (2 * (m : Int)) = (y : Int) := by rw [IntKind.wrap_u32']; exact e1
  have w2 : IntKind.u32.wrap ((y : Int) + (x : Int)) = (V : Int) := by rw [IntKind.wrap_u32']; exact e2
  clear hg
  go_enter Try.func29, Try.ntmps29
  go_wp2_with fail
  go_ret
  exact ⟨rfl, rfl⟩
end Go.Proofs.Ytfdnlkhipjjnbaa
