/-
  The document's gears, its cut, and where it says that a chunk might end.
-/
import Derived.Test.YtfdnlkhipjjnbaaCGear
import Derived.Test.YtfdnlkhipjjnbaaCCut
import Derived.Test.YtfdnlkhipjjnbaaCEnds
import Derived.Test.YtfdnlkhipjjnbaaSRefS
import Derived.Deep.RegionHeld3
namespace Go.Proofs.Ytfdnlkhipjjnbaa
open Go.RowKit Pl
set_option linter.unusedVariables false

set_option maxRecDepth 100000 in
set_option maxHeartbeats 2000000 in
theorem refGear_any (b : Nat) (w : World) (hb : b < 256) :
    Calls Try.prog 16 #[.int .u8 (b : Int)] w fun e w' => e = .returned (.int .i64 (gr b : Int)) ∧ Below w.heap.size w w' := by
  obtain ⟨hv32, hi32⟩ := zero_of_info info_32
  have HI32 : Hid ((Try.prog.info? 23).map (·.size) = some 32) := hi32
  obtain ⟨Z32, hZ32⟩ : ∃ Z, Hid ((ucs .u8 32 (fun _ => 0)).toArray = Z) := ⟨_, rfl⟩
  rw [hZ32.out] at hv32
  have HZ32 : Hid (Z32.size = 32) := by show _ = _; rw [← hZ32.out]; exact ucs_size _ _ _
  obtain ⟨F, hF⟩ : ∃ F, Hid (ucs .u8 32 (sha [(b : Int)]) = F) := ⟨_, rfl⟩
  have HSZ : Hid (F.toArray.size = 32) := by show _ = _; rw [← hF.out]; exact ucs_size _ _ _
  have HON : Hid (F.toArray.all (·.oneCell') = true) := by show _ = _; rw [← hF.out]; exact ucs_one _ _ _
  clear hi32
  go_enter Try.func16, Try.ntmps16
  go_wp2_with fail
  refine (refSha_any _ [(b : Int)] _ (rd_one w b) (by_one hb) (by simp)).mono ?_
  rintro e w1 ⟨rfl, b1⟩
  rw [hF.out]
  have B1 : Hid (Below w.heap.size w w1) := ((Below.refl _ w).alloc (Nat.le_refl _) _).trans (b1.mono (by simp))
  clear b1
  have u2 := uv_new .u8 w1 23 32 (sha [(b : Int)])
  rw [hF.out] at u2
  have B2 : Hid (Below w.heap.size w (w1.alloc (.cells F.toArray 23))) := B1.out.alloc B1.out.size _
  have c0 := u2.at_ 0 (by decide)
  have c1 := u2.at_ 1 (by decide)
  have c2 := u2.at_ 2 (by decide)
  have c3 := u2.at_ 3 (by decide)
  have l0 := sha_lt [(b : Int)] 0
  have l1 := sha_lt [(b : Int)] 1
  have l2 := sha_lt [(b : Int)] 2
  have l3 := sha_lt [(b : Int)] 3
  have hG : gr b = sha [(b : Int)] 0 + 256 * sha [(b : Int)] 1 + 65536 * sha [(b : Int)] 2 + 16777216 * sha [(b : Int)] 3 := rfl
  generalize sha [(b : Int)] 0 = s0 at c0 l0 hG
  generalize sha [(b : Int)] 1 = s1 at c1 l1 hG
  generalize sha [(b : Int)] 2 = s2 at c2 l2 hG
  generalize sha [(b : Int)] 3 = s3 at c3 l3 hG
  obtain ⟨X3, hX3⟩ : ∃ X, s0 + 256 * s1 + 65536 * s2 + 16777216 * s3 = X := ⟨_, rfl⟩
  rw [hX3] at hG
  have HG : Hid (gr b = X3) := hG
  obtain ⟨Y1, hY1⟩ : ∃ X, 256 * s1 = X := ⟨_, rfl⟩
  obtain ⟨Y2, hY2⟩ : ∃ X, s0 + Y1 = X := ⟨_, rfl⟩
  obtain ⟨Y3, hY3⟩ : ∃ X, 65536 * s2 = X := ⟨_, rfl⟩
  obtain ⟨Y4, hY4⟩ : ∃ X, Y2 + Y3 = X := ⟨_, rfl⟩
  obtain ⟨Y5, hY5⟩ : ∃ X, 16777216 * s3 = X := ⟨_, rfl⟩
  have e1 : 256 * (s1 : Int) = (Y1 : Int) := by omega
  have e2 : (s0 : Int) + (Y1 : Int) = (Y2 : Int) := by omega
  have e3 : 65536 * (s2 : Int) = (Y3 : Int) := by omega
  have e4 : (Y2 : Int) + (Y3 : Int) = (Y4 : Int) := by omega
  have e5 : 16777216 * (s3 : Int) = (Y5 : Int) := by omega
  have e6 : (Y4 : Int) + (Y5 : Int) = (X3 : Int) := by omega
  have wr_ : ∀ n : Nat, n < 4611686018427387904 → IntKind.i64.wrap (n : Int) = (n : Int) := fun n h => by rw [IntKind.wrap_i64]; omega
  have q1 := wr_ Y1 (by omega)
  have q2 := wr_ Y2 (by omega)
  have q3 := wr_ Y3 (by omega)
  have q4 := wr_ Y4 (by omega)
  have q5 := wr_ Y5 (by omega)
  have q6 := wr_ X3 (by omega)
  have q7 := wr_ s0 (by omega)
  have q8 := wr_ s1 (by omega)
  have q9 := wr_ s2 (by omega)
  have q10 := wr_ s3 (by omega)
  clear u2 B1 hG hX3 hY1 hY2 hY3 hY4 hY5 wr_
  go_wp2_with (with_reducible (show wpList _ _ _ (Oper.mk _ (Op.store _ _ _) _ _ _ _ :: _) _ _); refine wpList_store_newS w1 rfl 23 (.tmp 3) (.tmp 6) rfl Z32 F.toArray ?h1 ?h2 (by rw [HSZ.out]; exact HI32.out) (by rw [HSZ.out, HZ32.out]) HON.out ?_; (case h1 => kernel_rfl); (case h2 => kernel_rfl))
  go_ret
  exact ⟨by rw [HG.out]; rfl, B2.out⟩

end Go.Proofs.Ytfdnlkhipjjnbaa
