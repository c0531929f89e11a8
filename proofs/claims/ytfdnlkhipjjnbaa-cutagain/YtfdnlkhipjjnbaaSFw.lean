/-
  The program's words at first, and its words k.
-/
import Derived.Test.YtfdnlkhipjjnbaaSWd
import Derived.Test.YtfdnlkhipjjnbaaSArr
namespace Go.Proofs.Ytfdnlkhipjjnbaa
open Go.RowKit Pl
set_option linter.unusedVariables false

section
variable {P : Program}
theorem wpList_build (w : World) {ops : Array Oper} {rest : List Oper} {o : Oper} {a : Act} {Q : Exit → Act → World → Prop} (hgd : o.guard = none) (ty : TypeId) (parts : Array (Nat × Operand)) (ho : o.op = .build ty parts)
    (cells : Array Value) (hb : P.built ty (parts.map fun (i, x) => (i, a.eval x)).toList = some cells)
    (h : wpList P ops Q rest (a.put o.dst (.agg cells)) w) : wpList P ops Q (o :: rest) a w := by
  refine wpList_plain hgd fun K hK => ?_
  have hrun := run_build (P := P) w ty _ cells hb
  unfold Oper.wp execOp
  simp only [ho, Sem.run_bind, hrun, Result.andThen_ok, Sem.run_pure]
  exact hK _ _ h
end


set_option maxRecDepth 100000 in
set_option maxHeartbeats 1000000 in
theorem firstWords_any (w : World) : Calls Try.prog 19 #[] w fun e w' => e = .returned (.agg (ucs .u32 8 st0.at_).toArray) ∧ Below w.heap.size w w' := by
  obtain ⟨hv8, hi8⟩ := zero_of_info info_8
  have HI8 : Hid ((Try.prog.info? 35).map (·.size) = some 8) := hi8
  obtain ⟨Z, hZ⟩ : ∃ Z, Hid ((ucs .u32 8 (fun _ => 0)).toArray = Z) := ⟨_, rfl⟩
  rw [hZ.out] at hv8
  have HZL : Hid (Z.size = 8) := by show _ = _; rw [← hZ.out]; exact ucs_size _ _ _
  obtain ⟨F, hF⟩ : ∃ F, Hid (ucs .u32 8 st0.at_ = F) := ⟨_, rfl⟩
  have HPL : Hid (F.length = 8) := by show _ = _; rw [← hF.out]; exact ucs_length _ _ _
  have HFL : Hid (F.toArray.size = 8) := by show _ = _; rw [← hF.out]; exact ucs_size _ _ _
  have HFO : Hid (F.toArray.all (·.oneCell') = true) := by show _ = _; rw [← hF.out]; exact ucs_one _ _ _
  rw [hF.out]
  clear hi8
  go_enter Try.func19, Try.ntmps19
  go_wp2_with (first
    | (with_reducible (show wpList _ _ _ (Oper.mk _ (Op.build _ _) _ _ _ _ :: _) _ _); refine wpList_build _ rfl 35 _ rfl F.toArray ?_ ?_; (· rw [← hF.out]; kernel_rfl))
    | (with_reducible (show wpList _ _ _ (Oper.mk _ (Op.store _ _ _) _ _ _ _ :: _) _ _); refine wpList_store_newS w rfl 35 (.tmp 0) (.tmp 1) rfl Z F.toArray rfl rfl (by rw [HFL.out]; exact HI8.out) (by rw [HFL.out, HZL.out]) HFO.out ?_))
  have hu := uv_new .u32 w 35 8 st0.at_
  rw [hF.out] at hu
  have hld := run_loadVar_mid (P := Try.prog) (w.alloc (.cells F.toArray 35)) w.heap.size 0 35 F _ (by
    have := (uv_new .u32 w 35 8 st0.at_).range
    rw [hF.out] at this
    exact this) Try.underlying35 rfl (by rw [HPL.out]; exact HI8.out)
  refine bodyPost_ret (v := .agg F.toArray) ?_ rfl ⟨rfl, ?_⟩
  · exact results_atS (p := 0) (ty := 35) rfl _ _ _ w.heap.size _ rfl hld
  · exact (Below.refl _ _).alloc (Nat.le_refl _) _

set_option maxRecDepth 100000 in
set_option maxHeartbeats 1000000 in
theorem mixedWords_any (w : World) : Calls Try.prog 20 #[] w fun e w' => e = .returned (.agg (ucs .u32 64 kF).toArray) ∧ Below w.heap.size w w' := by
  obtain ⟨hv8, hi8⟩ := zero_of_info info_64
  have HI8 : Hid ((Try.prog.info? 37).map (·.size) = some 64) := hi8
  obtain ⟨Z, hZ⟩ : ∃ Z, Hid ((ucs .u32 64 (fun _ => 0)).toArray = Z) := ⟨_, rfl⟩
  rw [hZ.out] at hv8
  have HZL : Hid (Z.size = 64) := by show _ = _; rw [← hZ.out]; exact ucs_size _ _ _
  obtain ⟨F, hF⟩ : ∃ F, Hid (ucs .u32 64 kF = F) := ⟨_, rfl⟩
  have HPL : Hid (F.length = 64) := by show _ = _; rw [← hF.out]; exact ucs_length _ _ _
  have HFL : Hid (F.toArray.size = 64) := by show _ = _; rw [← hF.out]; exact ucs_size _ _ _
  have HFO : Hid (F.toArray.all (·.oneCell') = true) := by show _ = _; rw [← hF.out]; exact ucs_one _ _ _
  rw [hF.out]
  clear hi8
  go_enter Try.func20, Try.ntmps20
  go_wp2_with (first
    | (with_reducible (show wpList _ _ _ (Oper.mk _ (Op.build _ _) _ _ _ _ :: _) _ _); refine wpList_build _ rfl 37 _ rfl F.toArray ?_ ?_; (· rw [← hF.out]; kernel_rfl))
    | (with_reducible (show wpList _ _ _ (Oper.mk _ (Op.store _ _ _) _ _ _ _ :: _) _ _); refine wpList_store_newS w rfl 37 (.tmp 0) (.tmp 1) rfl Z F.toArray rfl rfl (by rw [HFL.out]; exact HI8.out) (by rw [HFL.out, HZL.out]) HFO.out ?_))
  have hu := uv_new .u32 w 37 64 kF
  rw [hF.out] at hu
  have hld := run_loadVar_mid (P := Try.prog) (w.alloc (.cells F.toArray 37)) w.heap.size 0 37 F _ (by
    have := (uv_new .u32 w 37 64 kF).range
    rw [hF.out] at this
    exact this) Try.underlying37 rfl (by rw [HPL.out]; exact HI8.out)
  refine bodyPost_ret (v := .agg F.toArray) ?_ rfl ⟨rfl, ?_⟩
  · exact results_atS (p := 0) (ty := 37) rfl _ _ _ w.heap.size _ rfl hld
  · exact (Below.refl _ _).alloc (Nat.le_refl _) _
end Go.Proofs.Ytfdnlkhipjjnbaa
