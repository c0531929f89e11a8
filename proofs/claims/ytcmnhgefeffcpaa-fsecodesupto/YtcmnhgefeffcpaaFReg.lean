/-
  Two regions of Encode's round: the bits are put, and the state moves.
-/
import Derived.Test.YtcmnhgefeffcpaaFRound
namespace Go.Proofs.Ytcmnhgefeffcpaa
open Go.RowKit Pl Go.Shelf
set_option linter.unusedVariables false
set_option linter.unusedSimpArgs false

theorem noDefer {ops : Array Oper} (h : (ops.all fun o => match o.op with | .defer _ => false | _ => true) = true) : ∀ (i : Nat) (o : Oper), ops[i]? = some o → ∀ c, o.op ≠ .defer c := fun i o ho c e => by
  have h1 := Array.all_eq_true_iff_forall_mem.1 h o (Array.mem_of_getElem? ho)
  rw [e] at h1
  cases h1

set_option maxRecDepth 100000 in
set_option maxHeartbeats 2000000 in
theorem reg12 (l m : Nat) (u0 u1 u2 u3 u4 u5 u6 u7 u8 u9 u10 u11 u12 u13 u14 u15 u16 u17 u18 u19 u20 u21 u22 u23 u24 u25 u26 u27 u28 u29 u30 u31 u32 u33 u34 u35 u36 u37 u38 u39 u40 u41 u42 u43 u44 u45 u46 u47 u48 u49 u50 u51 u52 u53 u54 u55 u56 u57 u58 u59 u60 u61 u62 u63 u64 u65 u66 u67 u68 u69 u70 u71 u72 : Value) (B10 B11 b n σ T r : Nat) (W : World) (Q : Exit → Act → World → Prop) (hL : ¬ LetsOut Q) (hQ : ∀ c a w, ¬ Q (.panic c) a w)
    (hn : n ≤ 10) (hT : IntKind.i64.wrap (2 ^ n) = (T : Int)) (hT1 : IntKind.i64.wrap ((T : Int) - 1) = (T : Int) - 1) (hr : Go.bits BinOp.and IntKind.i64 (σ : Int) ((T : Int) - 1) = (r : Int))
    (c10 : W.cell? ⟨B10, 0, none⟩ = some (.pointer (some ⟨b, 0, none⟩))) (c11 : W.cell? ⟨B11, 0, none⟩ = some (.int .i64 (σ : Int)))
    (hp : Calls Try.prog 26 #[.pointer (some ⟨b, 0, none⟩), .int .i64 (n : Int), .int .i64 (r : Int)] W.drew fun e W2 => e = .returned (.int .i64 0) ∧ (W2.cell? ⟨B10, 0, none⟩ = some (.pointer (some ⟨b, 0, none⟩)) ∧ W2.cell? ⟨B11, 0, none⟩ = some (.int .i64 (σ : Int))) ∧ Q .normal { tmps := #[u0, u1, u2, u3, u4, u5, u6, u7, u8, u9, Value.pointer (some ⟨B10, 0, none⟩), Value.pointer (some ⟨B11, 0, none⟩), u12, u13, Value.int .i64 (n : Int), u15, u16, u17, u18, u19, u20, u21, u22, u23, u24, u25, u26, u27, u28, u29, u30, u31, u32, u33, u34, u35, u36, u37, u38, u39, u40, u41, u42, u43, u44, Value.pointer (some ⟨b, 0, none⟩), Value.int .i64 (n : Int), Value.int .i64 (σ : Int), Value.int .i64 (n : Int), Value.int .i64 (T : Int), Value.int .i64 ((T : Int) - 1), Value.int .i64 (r : Int), Value.int .i64 0, u53, u54, u55, u56, u57, u58, u59, u60, u61, u62, u63, u64, u65, u66, u67, u68, u69, u70, u71, u72], defers := [] } W2) :
    (Code.region 12 #[{ dst := some 45, op := Op.load 48 (Operand.tmp 10), type := 48, pos := "fse.go:93", after := #[], guard := none }, { dst := some 46, op := Op.move (Operand.tmp 14), type := 3, pos := "fse.go:93", after := #[], guard := none }, { dst := some 47, op := Op.load 3 (Operand.tmp 11), type := 3, pos := "fse.go:93", after := #[], guard := none }, { dst := some 48, op := Op.move (Operand.tmp 14), type := 3, pos := "fse.go:93", after := #[], guard := none }, { dst := some 49, op := Op.binOp BinOp.shl 3 (Operand.const (Value.int IntKind.i64 1)) (Operand.tmp 48) 3, type := 3, pos := "fse.go:93", after := #[{ on := 3, ground := Ground.data }], guard := none }, { dst := some 50, op := Op.binOp BinOp.sub 3 (Operand.tmp 49) (Operand.const (Value.int IntKind.i64 1)) 3, type := 3, pos := "fse.go:93", after := #[{ on := 4, ground := Ground.data }], guard := none }, { dst := some 51, op := Op.binOp BinOp.and 3 (Operand.tmp 47) (Operand.tmp 50) 3, type := 3, pos := "fse.go:93", after := #[{ on := 2, ground := Ground.data }, { on := 5, ground := Ground.data }], guard := none }, { dst := some 52, op := Op.call { callee := Callee.value (Operand.func 26), args := #[Operand.tmp 45, Operand.tmp 46, Operand.tmp 51], argTypes := #[48, 3, 3] }, type := 23, pos := "fse.go:93", after := #[{ on := 0, ground := Ground.data }, { on := 1, ground := Ground.data }, { on := 6, ground := Ground.data }], guard := none }] true).wpIn (Fence.wide.inRound l) m Try.prog Q { tmps := #[u0, u1, u2, u3, u4, u5, u6, u7, u8, u9, Value.pointer (some ⟨B10, 0, none⟩), Value.pointer (some ⟨B11, 0, none⟩), u12, u13, Value.int .i64 (n : Int), u15, u16, u17, u18, u19, u20, u21, u22, u23, u24, u25, u26, u27, u28, u29, u30, u31, u32, u33, u34, u35, u36, u37, u38, u39, u40, u41, u42, u43, u44, u45, u46, u47, u48, u49, u50, u51, u52, u53, u54, u55, u56, u57, u58, u59, u60, u61, u62, u63, u64, u65, u66, u67, u68, u69, u70, u71, u72], defers := [] } W := by
  have hm : Try.prog.follows .mixedOrders = true := by kernel_rfl
  have hq : ∀ (dst : Option Tmp) (v : Value) c a w, Q (.panic c) (a.put dst v) w → Q (.panic c) a w := fun dst v c a w h => absurd h (hQ c _ w)
  have HP : Hid (Calls Try.prog 26 #[.pointer (some ⟨b, 0, none⟩), .int .i64 (n : Int), .int .i64 (r : Int)] W.drew fun e W2 => e = .returned (.int .i64 0) ∧ (W2.cell? ⟨B10, 0, none⟩ = some (.pointer (some ⟨b, 0, none⟩)) ∧ W2.cell? ⟨B11, 0, none⟩ = some (.int .i64 (σ : Int))) ∧ Q .normal { tmps := #[u0, u1, u2, u3, u4, u5, u6, u7, u8, u9, Value.pointer (some ⟨B10, 0, none⟩), Value.pointer (some ⟨B11, 0, none⟩), u12, u13, Value.int .i64 (n : Int), u15, u16, u17, u18, u19, u20, u21, u22, u23, u24, u25, u26, u27, u28, u29, u30, u31, u32, u33, u34, u35, u36, u37, u38, u39, u40, u41, u42, u43, u44, Value.pointer (some ⟨b, 0, none⟩), Value.int .i64 (n : Int), Value.int .i64 (σ : Int), Value.int .i64 (n : Int), Value.int .i64 (T : Int), Value.int .i64 ((T : Int) - 1), Value.int .i64 (r : Int), Value.int .i64 0, u53, u54, u55, u56, u57, u58, u59, u60, u61, u62, u63, u64, u65, u66, u67, u68, u69, u70, u71, u72], defers := [] } W2) := hp
  have HT : Hid (IntKind.i64.wrap (2 ^ n) = (T : Int)) := hT
  have HT1 : Hid (IntKind.i64.wrap ((T : Int) - 1) = (T : Int) - 1) := hT1
  have HRR : Hid (Go.bits BinOp.and IntKind.i64 (σ : Int) ((T : Int) - 1) = (r : Int)) := hr
  have HN : Hid (min n 64 = n) := by show _ = _; omega
  clear hp hT hT1 hr
  refine region_round (S := (fun w' : World => w'.cell? ⟨B10, 0, none⟩ = some (.pointer (some ⟨b, 0, none⟩)) ∧ w'.cell? ⟨B11, 0, none⟩ = some (.int .i64 (σ : Int)))) hm (noDefer (by kernel_rfl)) hL ⟨c10, c11⟩ ?_
  refine wpAnyH_take (i := 0) (oi := { dst := some 45, op := Op.load 48 (Operand.tmp 10), type := 48, pos := "fse.go:93", after := #[], guard := none }) (v := Value.pointer (some ⟨b, 0, none⟩)) rfl (by kernel_rfl) (by kernel_rfl) (by kernel_rfl) (hq _ _) (Or.inl ⟨by rfl, ?_⟩) ⟨c10, c11⟩ ?_
  · rintro w' ⟨h1, h2⟩
    go_simp
  try simp only [Act.put, List.setIfInBounds_toArray, List.set_cons_zero, List.set_cons_succ]
  refine wpAnyH_take (i := 1) (oi := { dst := some 46, op := Op.move (Operand.tmp 14), type := 3, pos := "fse.go:93", after := #[], guard := none }) (v := Value.int .i64 (n : Int)) rfl (by kernel_rfl) (by kernel_rfl) (by kernel_rfl) (hq _ _) (Or.inl ⟨by rfl, ?_⟩) ⟨c10, c11⟩ ?_
  · rintro w' ⟨h1, h2⟩
    go_simp
  try simp only [Act.put, List.setIfInBounds_toArray, List.set_cons_zero, List.set_cons_succ]
  refine wpAnyH_take (i := 2) (oi := { dst := some 47, op := Op.load 3 (Operand.tmp 11), type := 3, pos := "fse.go:93", after := #[], guard := none }) (v := Value.int .i64 (σ : Int)) rfl (by kernel_rfl) (by kernel_rfl) (by kernel_rfl) (hq _ _) (Or.inl ⟨by rfl, ?_⟩) ⟨c10, c11⟩ ?_
  · rintro w' ⟨h1, h2⟩
    go_simp
  try simp only [Act.put, List.setIfInBounds_toArray, List.set_cons_zero, List.set_cons_succ]
  refine wpAnyH_take (i := 3) (oi := { dst := some 48, op := Op.move (Operand.tmp 14), type := 3, pos := "fse.go:93", after := #[], guard := none }) (v := Value.int .i64 (n : Int)) rfl (by kernel_rfl) (by kernel_rfl) (by kernel_rfl) (hq _ _) (Or.inl ⟨by rfl, ?_⟩) ⟨c10, c11⟩ ?_
  · rintro w' ⟨h1, h2⟩
    go_simp
  try simp only [Act.put, List.setIfInBounds_toArray, List.set_cons_zero, List.set_cons_succ]
  refine wpAnyH_take (i := 4) (oi := { dst := some 49, op := Op.binOp BinOp.shl 3 (Operand.const (Value.int IntKind.i64 1)) (Operand.tmp 48) 3, type := 3, pos := "fse.go:93", after := #[{ on := 3, ground := Ground.data }], guard := none }) (v := Value.int .i64 (T : Int)) rfl (by kernel_rfl) (by kernel_rfl) (by kernel_rfl) (hq _ _) (Or.inl ⟨by rfl, ?_⟩) ⟨c10, c11⟩ ?_
  · rintro w' ⟨h1, h2⟩
    go_simp
    exact HT.out
  try simp only [Act.put, List.setIfInBounds_toArray, List.set_cons_zero, List.set_cons_succ]
  refine wpAnyH_take (i := 5) (oi := { dst := some 50, op := Op.binOp BinOp.sub 3 (Operand.tmp 49) (Operand.const (Value.int IntKind.i64 1)) 3, type := 3, pos := "fse.go:93", after := #[{ on := 4, ground := Ground.data }], guard := none }) (v := Value.int .i64 ((T : Int) - 1)) rfl (by kernel_rfl) (by kernel_rfl) (by kernel_rfl) (hq _ _) (Or.inl ⟨by rfl, ?_⟩) ⟨c10, c11⟩ ?_
  · rintro w' ⟨h1, h2⟩
    go_simp
    exact HT1.out
  try simp only [Act.put, List.setIfInBounds_toArray, List.set_cons_zero, List.set_cons_succ]
  refine wpAnyH_take (i := 6) (oi := { dst := some 51, op := Op.binOp BinOp.and 3 (Operand.tmp 47) (Operand.tmp 50) 3, type := 3, pos := "fse.go:93", after := #[{ on := 2, ground := Ground.data }, { on := 5, ground := Ground.data }], guard := none }) (v := Value.int .i64 (r : Int)) rfl (by kernel_rfl) (by kernel_rfl) (by kernel_rfl) (hq _ _) (Or.inl ⟨by rfl, ?_⟩) ⟨c10, c11⟩ ?_
  · rintro w' ⟨h1, h2⟩
    go_simp
    exact HRR.out
  try simp only [Act.put, List.setIfInBounds_toArray, List.set_cons_zero, List.set_cons_succ]
  refine wpAnyH_ready (rs := [7]) (by kernel_rfl) (by simp) (AllReadyH.cons (o := { dst := some 52, op := Op.call { callee := Callee.value (Operand.func 26), args := #[Operand.tmp 45, Operand.tmp 46, Operand.tmp 51], argTypes := #[48, 3, 3] }, type := 23, pos := "fse.go:93", after := #[{ on := 0, ground := Ground.data }, { on := 1, ground := Ground.data }, { on := 6, ground := Ground.data }], guard := none }) rfl ?_ AllReadyH.nil)
  intro K' hK
  rw [if_pos (by rfl)]
  go_simp
  refine HP.out.mono ?_
  rintro e W2 ⟨rfl, hS, hfin⟩
  refine hK.out _ _ hS (fun _ => wpAnyH_done (by kernel_rfl) ?_ _)
  simpa only [Act.put, List.setIfInBounds_toArray, List.set_cons_zero, List.set_cons_succ] using hfin

set_option maxRecDepth 100000 in
set_option maxHeartbeats 2000000 in
theorem reg13 (l m : Nat) (u0 u1 u2 u3 u4 u5 u6 u7 u8 u9 u10 u11 u12 u13 u14 u15 u16 u17 u18 u19 u20 u21 u22 u23 u24 u25 u26 u27 u28 u29 u30 u31 u32 u33 u34 u35 u36 u37 u38 u39 u40 u41 u42 u43 u44 u45 u46 u47 u48 u49 u50 u51 u52 u53 u54 u55 u56 u57 u58 u59 u60 u61 u62 u63 u64 u65 u66 u67 u68 u69 u70 u71 u72 : Value) (B3 B8 g9 B11 sb so len sc z k n σ sh X A P τ : Nat) (W : World) (Q : Exit → Act → World → Prop) (hL : ¬ LetsOut Q) (hQ : ∀ c a w, ¬ Q (.panic c) a w)
    (hn : n ≤ 10) (hk0 : (0 : Int) ≤ (k : Int)) (hk1 : (k : Int) < (len : Int)) (hX : (σ : Int) / 2 ^ n = (X : Int)) (hA : IntKind.i64.wrap ((X : Int) - (sh : Int)) = (A : Int)) (hτ : IntKind.i64.wrap ((z : Int) + (P : Int)) = (τ : Int))
    (hS : W.cell? ⟨B8, 0, none⟩ = some (.int .i64 (z : Int)) ∧ W.cell? ⟨B3, 0, none⟩ = some (.slice (some ⟨sb, so, none⟩) len sc) ∧ W.cell? ⟨sb, so + k, none⟩ = some (.int .i64 (sh : Int))) (c11 : W.cell? ⟨B11, 0, none⟩ = some (.int .i64 (σ : Int)))
    (hp : Calls Try.prog 27 #[.pointer (some ⟨g9, 0, none⟩), .int .i64 (k : Int), .int .i64 (A : Int)] W.drew fun e W2 => e = .returned (.int .i64 (P : Int)) ∧ ∃ j, W2 = W.drew.drewN j)
    (f11 : W.frozen? ⟨B11, 0, none⟩ = false)
    (hf : ∀ j, (((W.drewN j).setCell ⟨B11, 0, none⟩ (.int .i64 (τ : Int))).cell? ⟨B8, 0, none⟩ = some (.int .i64 (z : Int)) ∧ ((W.drewN j).setCell ⟨B11, 0, none⟩ (.int .i64 (τ : Int))).cell? ⟨B3, 0, none⟩ = some (.slice (some ⟨sb, so, none⟩) len sc) ∧ ((W.drewN j).setCell ⟨B11, 0, none⟩ (.int .i64 (τ : Int))).cell? ⟨sb, so + k, none⟩ = some (.int .i64 (sh : Int))) ∧ Q .normal { tmps := #[u0, u1, u2, Value.pointer (some ⟨B3, 0, none⟩), u4, u5, u6, u7, Value.pointer (some ⟨B8, 0, none⟩), Value.pointer (some ⟨g9, 0, none⟩), u10, Value.pointer (some ⟨B11, 0, none⟩), u12, Value.int .i64 (k : Int), Value.int .i64 (n : Int), u15, u16, u17, u18, u19, u20, u21, u22, u23, u24, u25, u26, u27, u28, u29, u30, u31, u32, u33, u34, u35, u36, u37, u38, u39, u40, u41, u42, u43, u44, u45, u46, u47, u48, u49, u50, u51, u52, Value.int .i64 (z : Int), Value.int .i64 (k : Int), Value.int .i64 (σ : Int), Value.int .i64 (n : Int), Value.int .i64 (X : Int), Value.slice (some ⟨sb, so, none⟩) len sc, Value.int .i64 (k : Int), Value.pointer (some ⟨sb, so + k, none⟩), Value.int .i64 (sh : Int), Value.int .i64 (A : Int), Value.int .i64 (P : Int), Value.int .i64 (τ : Int), u65, u66, u67, u68, u69, u70, u71, u72], defers := [] } ((W.drewN j).setCell ⟨B11, 0, none⟩ (.int .i64 (τ : Int)))) :
    (Code.region 13 #[{ dst := some 53, op := Op.load 3 (Operand.tmp 8), type := 3, pos := "fse.go:94", after := #[], guard := none }, { dst := some 54, op := Op.move (Operand.tmp 13), type := 3, pos := "fse.go:94", after := #[], guard := none }, { dst := some 55, op := Op.load 3 (Operand.tmp 11), type := 3, pos := "fse.go:94", after := #[], guard := none }, { dst := some 56, op := Op.move (Operand.tmp 14), type := 3, pos := "fse.go:94", after := #[], guard := none }, { dst := some 57, op := Op.binOp BinOp.shr 3 (Operand.tmp 55) (Operand.tmp 56) 3, type := 3, pos := "fse.go:94", after := #[{ on := 2, ground := Ground.data }, { on := 3, ground := Ground.data }], guard := none }, { dst := some 58, op := Op.load 22 (Operand.tmp 3), type := 22, pos := "fse.go:94", after := #[], guard := none }, { dst := some 59, op := Op.move (Operand.tmp 13), type := 3, pos := "fse.go:94", after := #[], guard := none }, { dst := some 60, op := Op.indexAddr 22 (Operand.tmp 58) (Operand.tmp 59), type := 0, pos := "fse.go:94", after := #[{ on := 5, ground := Ground.data }, { on := 6, ground := Ground.data }], guard := none }, { dst := some 61, op := Op.load 3 (Operand.tmp 60), type := 3, pos := "fse.go:94", after := #[{ on := 7, ground := Ground.data }], guard := none }, { dst := some 62, op := Op.binOp BinOp.sub 3 (Operand.tmp 57) (Operand.tmp 61) 3, type := 3, pos := "fse.go:94", after := #[{ on := 4, ground := Ground.data }, { on := 8, ground := Ground.data }], guard := none }, { dst := some 63, op := Op.call { callee := Callee.value (Operand.func 27), args := #[Operand.tmp 9, Operand.tmp 54, Operand.tmp 62], argTypes := #[46, 3, 3] }, type := 3, pos := "fse.go:94", after := #[{ on := 1, ground := Ground.data }, { on := 9, ground := Ground.data }], guard := none }, { dst := some 64, op := Op.binOp BinOp.add 3 (Operand.tmp 53) (Operand.tmp 63) 3, type := 3, pos := "fse.go:94", after := #[{ on := 0, ground := Ground.data }, { on := 10, ground := Ground.data }], guard := none }, { dst := none, op := Op.store 3 (Operand.tmp 11) (Operand.tmp 64), type := 0, pos := "fse.go:94", after := #[{ on := 11, ground := Ground.data }, { on := 10, ground := Ground.chain }, { on := 0, ground := Ground.phase }, { on := 1, ground := Ground.phase }, { on := 2, ground := Ground.phase }, { on := 3, ground := Ground.phase }, { on := 4, ground := Ground.phase }, { on := 5, ground := Ground.phase }, { on := 6, ground := Ground.phase }, { on := 7, ground := Ground.phase }, { on := 8, ground := Ground.phase }, { on := 9, ground := Ground.phase }, { on := 10, ground := Ground.phase }, { on := 11, ground := Ground.phase }], guard := none }] true).wpIn (Fence.wide.inRound l) m Try.prog Q { tmps := #[u0, u1, u2, Value.pointer (some ⟨B3, 0, none⟩), u4, u5, u6, u7, Value.pointer (some ⟨B8, 0, none⟩), Value.pointer (some ⟨g9, 0, none⟩), u10, Value.pointer (some ⟨B11, 0, none⟩), u12, Value.int .i64 (k : Int), Value.int .i64 (n : Int), u15, u16, u17, u18, u19, u20, u21, u22, u23, u24, u25, u26, u27, u28, u29, u30, u31, u32, u33, u34, u35, u36, u37, u38, u39, u40, u41, u42, u43, u44, u45, u46, u47, u48, u49, u50, u51, u52, u53, u54, u55, u56, u57, u58, u59, u60, u61, u62, u63, u64, u65, u66, u67, u68, u69, u70, u71, u72], defers := [] } W := by
  have hm : Try.prog.follows .mixedOrders = true := by kernel_rfl
  have hq : ∀ (dst : Option Tmp) (v : Value) c a w, Q (.panic c) (a.put dst v) w → Q (.panic c) a w := fun dst v c a w h => absurd h (hQ c _ w)
  have HP : Hid (Calls Try.prog 27 #[.pointer (some ⟨g9, 0, none⟩), .int .i64 (k : Int), .int .i64 (A : Int)] W.drew fun e W2 => e = .returned (.int .i64 (P : Int)) ∧ ∃ j, W2 = W.drew.drewN j) := hp
  have HFF : Hid (∀ j, (((W.drewN j).setCell ⟨B11, 0, none⟩ (.int .i64 (τ : Int))).cell? ⟨B8, 0, none⟩ = some (.int .i64 (z : Int)) ∧ ((W.drewN j).setCell ⟨B11, 0, none⟩ (.int .i64 (τ : Int))).cell? ⟨B3, 0, none⟩ = some (.slice (some ⟨sb, so, none⟩) len sc) ∧ ((W.drewN j).setCell ⟨B11, 0, none⟩ (.int .i64 (τ : Int))).cell? ⟨sb, so + k, none⟩ = some (.int .i64 (sh : Int))) ∧ Q .normal { tmps := #[u0, u1, u2, Value.pointer (some ⟨B3, 0, none⟩), u4, u5, u6, u7, Value.pointer (some ⟨B8, 0, none⟩), Value.pointer (some ⟨g9, 0, none⟩), u10, Value.pointer (some ⟨B11, 0, none⟩), u12, Value.int .i64 (k : Int), Value.int .i64 (n : Int), u15, u16, u17, u18, u19, u20, u21, u22, u23, u24, u25, u26, u27, u28, u29, u30, u31, u32, u33, u34, u35, u36, u37, u38, u39, u40, u41, u42, u43, u44, u45, u46, u47, u48, u49, u50, u51, u52, Value.int .i64 (z : Int), Value.int .i64 (k : Int), Value.int .i64 (σ : Int), Value.int .i64 (n : Int), Value.int .i64 (X : Int), Value.slice (some ⟨sb, so, none⟩) len sc, Value.int .i64 (k : Int), Value.pointer (some ⟨sb, so + k, none⟩), Value.int .i64 (sh : Int), Value.int .i64 (A : Int), Value.int .i64 (P : Int), Value.int .i64 (τ : Int), u65, u66, u67, u68, u69, u70, u71, u72], defers := [] } ((W.drewN j).setCell ⟨B11, 0, none⟩ (.int .i64 (τ : Int)))) := hf
  have HX : Hid ((σ : Int) / 2 ^ n = (X : Int)) := hX
  have HA : Hid (IntKind.i64.wrap ((X : Int) - (sh : Int)) = (A : Int)) := hA
  have HTT : Hid (IntKind.i64.wrap ((z : Int) + (P : Int)) = (τ : Int)) := hτ
  have HSS : Hid (W.cell? ⟨B8, 0, none⟩ = some (.int .i64 (z : Int)) ∧ W.cell? ⟨B3, 0, none⟩ = some (.slice (some ⟨sb, so, none⟩) len sc) ∧ W.cell? ⟨sb, so + k, none⟩ = some (.int .i64 (sh : Int))) := hS
  clear hp hX hA hτ hf hS
  refine region_round (S := (fun w' : World => w'.cell? ⟨B8, 0, none⟩ = some (.int .i64 (z : Int)) ∧ w'.cell? ⟨B3, 0, none⟩ = some (.slice (some ⟨sb, so, none⟩) len sc) ∧ w'.cell? ⟨sb, so + k, none⟩ = some (.int .i64 (sh : Int)))) hm (noDefer (by kernel_rfl)) hL HSS.out ?_
  refine wpAnyH_take (i := 0) (oi := { dst := some 53, op := Op.load 3 (Operand.tmp 8), type := 3, pos := "fse.go:94", after := #[], guard := none }) (v := Value.int .i64 (z : Int)) rfl (by kernel_rfl) (by kernel_rfl) (by kernel_rfl) (hq _ _) (Or.inl ⟨by rfl, ?_⟩) HSS.out ?_
  · rintro w' ⟨h1, h2, h3⟩
    go_simp
  try simp only [Act.put, List.setIfInBounds_toArray, List.set_cons_zero, List.set_cons_succ]
  refine wpAnyH_take (i := 1) (oi := { dst := some 54, op := Op.move (Operand.tmp 13), type := 3, pos := "fse.go:94", after := #[], guard := none }) (v := Value.int .i64 (k : Int)) rfl (by kernel_rfl) (by kernel_rfl) (by kernel_rfl) (hq _ _) (Or.inl ⟨by rfl, ?_⟩) HSS.out ?_
  · rintro w' ⟨h1, h2, h3⟩
    go_simp
  try simp only [Act.put, List.setIfInBounds_toArray, List.set_cons_zero, List.set_cons_succ]
  refine wpAnyH_take (i := 3) (oi := { dst := some 56, op := Op.move (Operand.tmp 14), type := 3, pos := "fse.go:94", after := #[], guard := none }) (v := Value.int .i64 (n : Int)) rfl (by kernel_rfl) (by kernel_rfl) (by kernel_rfl) (hq _ _) (Or.inl ⟨by rfl, ?_⟩) HSS.out ?_
  · rintro w' ⟨h1, h2, h3⟩
    go_simp
  try simp only [Act.put, List.setIfInBounds_toArray, List.set_cons_zero, List.set_cons_succ]
  refine wpAnyH_take (i := 5) (oi := { dst := some 58, op := Op.load 22 (Operand.tmp 3), type := 22, pos := "fse.go:94", after := #[], guard := none }) (v := Value.slice (some ⟨sb, so, none⟩) len sc) rfl (by kernel_rfl) (by kernel_rfl) (by kernel_rfl) (hq _ _) (Or.inl ⟨by rfl, ?_⟩) HSS.out ?_
  · rintro w' ⟨h1, h2, h3⟩
    go_simp
  try simp only [Act.put, List.setIfInBounds_toArray, List.set_cons_zero, List.set_cons_succ]
  refine wpAnyH_take (i := 6) (oi := { dst := some 59, op := Op.move (Operand.tmp 13), type := 3, pos := "fse.go:94", after := #[], guard := none }) (v := Value.int .i64 (k : Int)) rfl (by kernel_rfl) (by kernel_rfl) (by kernel_rfl) (hq _ _) (Or.inl ⟨by rfl, ?_⟩) HSS.out ?_
  · rintro w' ⟨h1, h2, h3⟩
    go_simp
  try simp only [Act.put, List.setIfInBounds_toArray, List.set_cons_zero, List.set_cons_succ]
  refine wpAnyH_take (i := 7) (oi := { dst := some 60, op := Op.indexAddr 22 (Operand.tmp 58) (Operand.tmp 59), type := 0, pos := "fse.go:94", after := #[{ on := 5, ground := Ground.data }, { on := 6, ground := Ground.data }], guard := none }) (v := Value.pointer (some ⟨sb, so + k, none⟩)) rfl (by kernel_rfl) (by kernel_rfl) (by kernel_rfl) (hq _ _) (Or.inl ⟨by rfl, ?_⟩) HSS.out ?_
  · rintro w' ⟨h1, h2, h3⟩
    go_simp
  try simp only [Act.put, List.setIfInBounds_toArray, List.set_cons_zero, List.set_cons_succ]
  refine wpAnyH_take (i := 8) (oi := { dst := some 61, op := Op.load 3 (Operand.tmp 60), type := 3, pos := "fse.go:94", after := #[{ on := 7, ground := Ground.data }], guard := none }) (v := Value.int .i64 (sh : Int)) rfl (by kernel_rfl) (by kernel_rfl) (by kernel_rfl) (hq _ _) (Or.inl ⟨by rfl, ?_⟩) HSS.out ?_
  · rintro w' ⟨h1, h2, h3⟩
    go_simp
  try simp only [Act.put, List.setIfInBounds_toArray, List.set_cons_zero, List.set_cons_succ]
  refine wpAnyH_ready (rs := [2]) (by kernel_rfl) (by simp) (AllReadyH.cons (o := { dst := some 55, op := Op.load 3 (Operand.tmp 11), type := 3, pos := "fse.go:94", after := #[], guard := none }) rfl ?_ AllReadyH.nil)
  intro K' hK
  rw [if_pos (by rfl)]
  have c11' : W.drew.cell? ⟨B11, 0, none⟩ = some (.int .i64 (σ : Int)) := c11
  go_simp
  refine hK.out _ _ HSS.out (fun _ => ?_)
  clear hK
  try simp only [Act.put, List.setIfInBounds_toArray, List.set_cons_zero, List.set_cons_succ]
  refine wpAnyH_take (i := 4) (oi := { dst := some 57, op := Op.binOp BinOp.shr 3 (Operand.tmp 55) (Operand.tmp 56) 3, type := 3, pos := "fse.go:94", after := #[{ on := 2, ground := Ground.data }, { on := 3, ground := Ground.data }], guard := none }) (v := Value.int .i64 (X : Int)) rfl (by kernel_rfl) (by kernel_rfl) (by kernel_rfl) (hq _ _) (Or.inl ⟨by rfl, ?_⟩) HSS.out ?_
  · rintro w' ⟨h1, h2, h3⟩
    go_simp
    exact HX.out
  try simp only [Act.put, List.setIfInBounds_toArray, List.set_cons_zero, List.set_cons_succ]
  refine wpAnyH_take (i := 9) (oi := { dst := some 62, op := Op.binOp BinOp.sub 3 (Operand.tmp 57) (Operand.tmp 61) 3, type := 3, pos := "fse.go:94", after := #[{ on := 4, ground := Ground.data }, { on := 8, ground := Ground.data }], guard := none }) (v := Value.int .i64 (A : Int)) rfl (by kernel_rfl) (by kernel_rfl) (by kernel_rfl) (hq _ _) (Or.inl ⟨by rfl, ?_⟩) HSS.out ?_
  · rintro w' ⟨h1, h2, h3⟩
    go_simp
    exact HA.out
  try simp only [Act.put, List.setIfInBounds_toArray, List.set_cons_zero, List.set_cons_succ]
  refine wpAnyH_ready (rs := [10]) (by kernel_rfl) (by simp) (AllReadyH.cons (o := { dst := some 63, op := Op.call { callee := Callee.value (Operand.func 27), args := #[Operand.tmp 9, Operand.tmp 54, Operand.tmp 62], argTypes := #[46, 3, 3] }, type := 3, pos := "fse.go:94", after := #[{ on := 1, ground := Ground.data }, { on := 9, ground := Ground.data }], guard := none }) rfl ?_ AllReadyH.nil)
  intro K' hK
  rw [if_pos (by rfl)]
  go_simp
  refine HP.out.mono ?_
  rintro e W2 ⟨rfl, j, rfl⟩
  refine hK.out _ _ HSS.out (fun _ => ?_)
  clear hK
  try simp only [Act.put, List.setIfInBounds_toArray, List.set_cons_zero, List.set_cons_succ]
  refine wpAnyH_take (i := 11) (oi := { dst := some 64, op := Op.binOp BinOp.add 3 (Operand.tmp 53) (Operand.tmp 63) 3, type := 3, pos := "fse.go:94", after := #[{ on := 0, ground := Ground.data }, { on := 10, ground := Ground.data }], guard := none }) (v := Value.int .i64 (τ : Int)) rfl (by kernel_rfl) (by kernel_rfl) (by kernel_rfl) (hq _ _) (Or.inl ⟨by rfl, ?_⟩) HSS.out ?_
  · rintro w' ⟨h1, h2, h3⟩
    go_simp
    exact HTT.out
  try simp only [Act.put, List.setIfInBounds_toArray, List.set_cons_zero, List.set_cons_succ]
  refine wpAnyH_ready (rs := [12]) (by kernel_rfl) (by simp) (AllReadyH.cons (o := { dst := none, op := Op.store 3 (Operand.tmp 11) (Operand.tmp 64), type := 0, pos := "fse.go:94", after := #[{ on := 11, ground := Ground.data }, { on := 10, ground := Ground.chain }, { on := 0, ground := Ground.phase }, { on := 1, ground := Ground.phase }, { on := 2, ground := Ground.phase }, { on := 3, ground := Ground.phase }, { on := 4, ground := Ground.phase }, { on := 5, ground := Ground.phase }, { on := 6, ground := Ground.phase }, { on := 7, ground := Ground.phase }, { on := 8, ground := Ground.phase }, { on := 9, ground := Ground.phase }, { on := 10, ground := Ground.phase }, { on := 11, ground := Ground.phase }], guard := none }) rfl ?_ AllReadyH.nil)
  intro K' hK
  rw [if_pos (by rfl)]
  have c12 : (W.drew.drewN j).cell? ⟨B11, 0, none⟩ = some (.int .i64 (σ : Int)) := c11
  have f12 : (W.drew.drewN j).frozen? ⟨B11, 0, none⟩ = false := f11
  go_simp
  refine hK.out _ _ (HFF.out (1 + j)).1 (fun _ => wpAnyH_done (by kernel_rfl) ?_ _)
  have hfin := (HFF.out (1 + j)).2
  try simp only [Act.put, List.setIfInBounds_toArray, List.set_cons_zero, List.set_cons_succ]
  exact hfin
end Go.Proofs.Ytcmnhgefeffcpaa
