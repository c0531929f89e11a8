import Derived.Test.YtobenjkacpipeaaGreatPPkPart
import Derived.Test.YtobenjkacpipeaaGreatPNum
import Derived.Test.YtobenjkacpipeaaGreatPPkStm2
set_option maxRecDepth 100000
set_option linter.unusedVariables false
set_option linter.unusedSimpArgs false
set_option maxHeartbeats 8000000
namespace Go.Proofs.YtobenjkacpipeaaGreat
open Go.RowKit Pl
def rst (v : Int) : List Int := bitsOf v (rbs (cOf v : Int))
def rstK (x : Sq) : Nat -> List Int
 | 0 => []
 | k + 1 => rstK x k ++ rst (vOf k x)
def rsts (ps : List Sq) : Nat -> List Int
 | 0 => []
 | k + 1 => rsts ps k ++ rstK (ps.getD k sq0) 3
theorem zvw9 (v : Int) (n : Nat) (h : 0 <= v /\ v <= 65535) (hn : n <= 16) : Go.bits BinOp.and IntKind.i64 v (2 ^ n - 1) = v % 2 ^ n := by
 obtain ⟨a, rfl⟩ := Int.eq_ofNat_of_zero_le h.1
 have hp : 2 ^ n <= 2 ^ 16 := Nat.pow_le_pow_right (by decide) hn
 have e16 : 2 ^ 16 = 65536 := by decide
 have e62 : 2 ^ 62 = 4611686018427387904 := by decide
 have hpos : 0 < 2 ^ n := Nat.pow_pos (by decide)
 have e : ((2 : Int) ^ n - 1) = ((2 ^ n - 1 : Nat) : Int) := by rw [Int.ofNat_sub (by omega)]; push_cast; rfl
 rw [e, (bits_nat .i64 62 (by decide) zi9 a (2 ^ n - 1) (by omega) (by omega)).1, Nat.and_two_pow_sub_one_eq_mod]
 push_cast
 rfl
theorem zoh9 (w : World) (C : Array Value) (n : Nat) (v : Value) (hn : n < 3) (hv : C[n]? = some v) : (Instr.index 81 (.agg C) (.int .i64 (n : Int))).run Tryz.prog w = .ok v w := by
 have hu : Tryz.prog.underlying 81 = some (.array 3 80) := Tryz.underlying81
 have hs : (Tryz.prog.info? 80).map (·.size) = some 1 := by kernel_rfl
 obtain ⟨i, hi, hsz⟩ := Option.map_eq_some_iff.1 hs
 have hsi : (sizeOf 80).run Tryz.prog w = .ok 1 w := by simp [sizeOf, typeInfo, hi, hsz]
 have hag : (isAgg 80).run Tryz.prog w = .ok false w := by
  unfold isAgg
  rw [Sem.run_bind, run_underlying Tryz.underlying80 w]
  rfl
 have hc : (0 : Int) <= (n : Int) /\ (n : Int) < ((3 : Nat) : Int) := ⟨by omega, by omega⟩
 simp only [Instr.index, asIntOf, Sem.run_bind, Sem.run_pure, Result.andThen_ok, run_underlying hu w, if_pos hc, hsi, part, hag, Int.toNat_natCast, Nat.mul_one, hv]
 rfl
theorem zdt9 (w : World) {ops : Array Oper} {rest : List Oper} {o : Oper} {a : Act} {Q : Exit -> Act -> World -> Prop} (hgd : o.guard = none) (x i : Operand)
  (ho : o.op = .index 81 x i) (C : Array Value) (n : Nat) (v : Value) (hx : a.eval x = .agg C) (hi : a.eval i = .int .i64 (n : Int)) (hn : n < 3) (hv : C[n]? = some v)
  (h : wpList Tryz.prog ops Q rest (a.put o.dst v) w) : wpList Tryz.prog ops Q (o :: rest) a w := by
 refine wpList_plain hgd fun K hK => ?_
 have hrun := zoh9 w C n v hn hv
 unfold Oper.wp execOp
 simp only [ho, hx, hi, Sem.run_bind, hrun, Result.andThen_ok, Sem.run_pure]
 exact hK _ _ h
theorem zuh9 (k : Nat) (hk : k < 3) : pArr[k]? = some (.func (.func (pFn k)) #[] #[]) := by
 match k, hk with
 | 0, _ => rfl
 | 1, _ => rfl
 | 2, _ => rfl
theorem zow9 (k : Nat) (hk : k < 3) : ∀ args w, (callFunc (pFn k) args).run Tryz.prog w = .ok (.enter (pFn k) args) w := by
 match k, hk with
 | 0, _ => exact enters_of Tryz.func86 (by kernel_rfl) rfl
 | 1, _ => exact enters_of Tryz.func87 (by kernel_rfl) rfl
 | 2, _ => exact enters_of Tryz.func88 (by kernel_rfl) rfl
structure Rz (w W : World) (b P : Nat) (rv : Value) (bs : List Int) : Prop where
 wr : Wr W b rv bs
 pb : W.heap[P]? = some (.cells pArr 81 (0, 0))
 bel : Below w.heap.size w W
 bn : w.heap.size <= b
 pn : w.heap.size <= P
 rn : ∀ k, rv.ownBlock = some k -> w.heap.size <= k
section
variable {w W W' : World} {b P : Nat} {rv rv' : Value} {bs xs : List Int}
theorem Rz.ltP (h : Rz w W b P rv bs) : P < W.heap.size := (Array.getElem?_eq_some_iff.1 h.pb).1
theorem Rz.blw (h : Rz w W b P rv bs) (hb : Below W.heap.size W W') : Rz w W' b P rv bs :=
 ⟨h.wr.tch (S := fun _ => False) (Tch.of_below hb) (fun e => e) (fun _ _ e => e), by rw [hb.block P h.ltP]; exact h.pb, h.bel.trans (hb.mono h.bel.size), h.bn, h.pn, h.rn⟩
theorem Rz.neP (h : Rz w W b P rv bs) : P ≠ b /\ rv.ownBlock ≠ some P := by
 refine ⟨fun e => ?_, fun e => ?_⟩
 ·have h1 := h.pb
  rw [e, h.wr.blk] at h1
  simp at h1
 ·obtain ⟨c, h1⟩ := zas9 h.wr.own e
  rw [h.pb] at h1
  simp at h1
theorem Rz.put (h : Rz w W b P rv bs) (hp : WrTo W b rv W' rv' xs) : Rz w W' b P rv' xs := by
 have hne := h.neP
 refine ⟨hp.wr, ?_, h.bel.trans (hp.tch.below h.bel.size (fun k hk => ?_)), h.bn, h.pn, fun k hk => ?_⟩
 ·rw [hp.tch.block P h.ltP (fun e => by rcases e with e | e; (· exact hne.1 e); (· exact hne.2 e))]; exact h.pb
 ·rcases hk with e | e
  ·rw [e]; exact h.bn
  ·exact h.rn k e
 ·rcases hp.fresh k hk with e | e
  ·exact h.rn k e
  ·have := h.bel.size; omega
end
theorem zzl9 {v : Int} (h : 0 <= v /\ v <= 65535) : (rst v).length <= 15 := by
 unfold rst
 rw [za9]
 have := cOf_le h
 unfold rbs
 omega
theorem zhb9 {x : Sq} (h : SqOk x) : ∀ k, k <= 3 -> (rstK x k).length <= 15 * k
 | 0, _ => by simp [rstK]
 | k + 1, hk => by
  have h1 := zhb9 h k (by omega)
  have h2 := zzl9 (h k (by omega))
  simp only [rstK, List.length_append]
  omega
theorem zdl9 {ps : List Sq} (h : ∀ x ∈ ps, SqOk x) : ∀ k, k <= ps.length -> (rsts ps k).length <= 45 * k
 | 0, _ => by simp [rsts]
 | k + 1, hk => by
  have h1 := zdl9 h k (by omega)
  have h2 : (rstK (ps.getD k sq0) 3).length <= 15 * 3 := zhb9 (by
   rw [List.getD_eq_getElem?_getD, List.getElem?_eq_getElem (by omega)]
   exact h _ (List.getElem_mem _)) 3 (by omega)
  simp only [rsts, List.length_append]
  omega
structure Ry (w W : World) (b P B : Nat) (rv : Value) (bs : List Int) (x1 x2 x3 : Int) : Prop where
 rz : Rz w W b P rv bs
 b7 : W.heap[B]? = some (.cells #[.int .i64 x1, .int .i64 x2, .int .i64 x3] 55 (0, 0))
section
variable {w W W' : World} {b P B : Nat} {rv rv' : Value} {bs xs : List Int} {x1 x2 x3 : Int}
theorem Ry.lt7 (h : Ry w W b P B rv bs x1 x2 x3) : B < W.heap.size := (Array.getElem?_eq_some_iff.1 h.b7).1
theorem Ry.blw (h : Ry w W b P B rv bs x1 x2 x3) (hb : Below W.heap.size W W') : Ry w W' b P B rv bs x1 x2 x3 := ⟨h.rz.blw hb, by rw [hb.block B h.lt7]; exact h.b7⟩
theorem Ry.put (h : Ry w W b P B rv bs x1 x2 x3) (hp : WrTo W b rv W' rv' xs) : Ry w W' b P B rv' xs x1 x2 x3 := by
 refine ⟨h.rz.put hp, ?_⟩
 rw [hp.tch.block B h.lt7 (fun e => ?_)]
 ·exact h.b7
 ·rcases e with e | e
  ·have h1 := h.b7
   rw [e, h.rz.wr.blk] at h1
   simp at h1
  ·obtain ⟨c, h1⟩ := zas9 h.rz.wr.own e
   rw [h.b7] at h1
   simp at h1
end
theorem zmx9 (sv : Value) (ps : List Sq) (w : World) (hr : RdS w sv ps) (hok : ∀ x ∈ ps, SqOk x) (h2 : ps.length <= 16384) :
  Calls Tryz.prog 56 #[sv] w fun e w' => ∃ v', e = .returned (.tuple #[v', .int .i64 0]) /\ Owns .u8 5 w' v' (pack (rsts ps ps.length)) /\ Below w.heap.size w w' /\ ∀ k, v'.ownBlock = some k -> w.heap.size <= k := by
 have HOK : Hid (∀ x ∈ ps, SqOk x) := hok
 obtain ⟨a, cap, rfl, hlc, hcm, hcc⟩ := hr
 have HCC : Hid (ps = [] ∨ ∃ b o, a = some ⟨b, o, none⟩ /\ ∀ i, i < ps.length -> w.cell? ⟨b, o + i * 3, none⟩ = some (.int .i64 (ps.getD i sq0).1) /\ w.cell? ⟨b, o + i * 3 + 1, none⟩ = some (.int .i64 (ps.getD i sq0).2.1) /\ w.cell? ⟨b, o + i * 3 + 2, none⟩ = some (.int .i64 (ps.getD i sq0).2.2)) := hcc
 clear hcc hok
 obtain ⟨n, hn⟩ : ∃ n, ps.length = n := ⟨_, rfl⟩
 have HN : Hid (ps.length = n) := hn
 rw [hn] at h2 hlc HCC ⊢
 clear hn
 go_enter Tryz.func56, Tryz.ntmps56
 go_wp2_with fail
 refine (zbd9 w).mono ?_
 rintro e w1 ⟨rfl, hw1, hb1⟩
 obtain ⟨b, hb⟩ : ∃ b, w.heap.size = b := ⟨_, rfl⟩
 have HB0 : Hid (w.heap.size = b) := hb
 rw [hb] at hw1 ⊢
 have W1 : Hid (Wr w1 b (.slice none 0 0) []) := hw1
 have B1 : Hid (Below w.heap.size w w1) := hb1
 clear hw1 hb1 hb
 go_wp2_with fail
 refine (zgc9 w1).mono ?_
 rintro e w2 ⟨rfl, hb2⟩
 have W2 : Hid (Wr w2 b (.slice none 0 0) []) := W1.out.tch (S := fun _ => False) (Tch.of_below hb2) (fun e => e) (fun _ _ e => e)
 have B2 : Hid (Below w.heap.size w w2) := B1.out.trans (hb2.mono B1.out.size)
 clear hb2 W1 B1
 go_wp2_with (refine zl9 w2 rfl 81 (.tmp 5) (.tmp 14) rfl #[.nilFunc, .nilFunc, .nilFunc] pArr rfl rfl (by kernel_rfl) rfl zqu9 ?_)
 obtain ⟨W3, hW3⟩ : ∃ W3, Hid (w2.alloc (.cells pArr 81) = W3) := ⟨_, rfl⟩
 rw [hW3.out]
 obtain ⟨P, hP⟩ : ∃ P, Hid (w2.heap.size = P) := ⟨_, rfl⟩
 rw [hP.out]
 have R3 : Hid (Rz w W3 b P (.slice none 0 0) (rsts ps 0)) := by
  have hb : Below w2.heap.size w2 W3 := by rw [<- hW3.out]; exact (Below.refl _ _).alloc (Nat.le_refl _) _
  refine ⟨W2.out.tch (S := fun _ => False) (Tch.of_below hb) (fun e => e) (fun _ _ e => e), ?_, B2.out.trans (hb.mono B2.out.size), by have := HB0.out; omega, by have := hP.out; have := B2.out.size; omega, (fun k e => by cases e)⟩
  rw [<- hW3.out, <- hP.out]
  exact heap_alloc_new w2 _
 clear hW3 hP W2 B2
 go_loopw [17] (fun i wr => ∃ (k : Nat) (rv : Value), k <= n /\ i = .int .i64 k /\ Hid (Rz w wr b P rv (rsts ps k))) (fun i _ => n - (intOf i).toNat)
 case atStart => exact ⟨0, _, Nat.zero_le _, rfl, R3⟩
 case round =>
  clear R3
  obtain ⟨k, rv, hk, rfl, R⟩ := hrel
  by_cases hlt : k < n
  ·obtain ⟨ab, ao, ha, hcell⟩ : ∃ b o, a = some ⟨b, o, none⟩ /\ ∀ i, i < n -> w.cell? ⟨b, o + i * 3, none⟩ = some (.int .i64 (ps.getD i sq0).1) /\ w.cell? ⟨b, o + i * 3 + 1, none⟩ = some (.int .i64 (ps.getD i sq0).2.1) /\ w.cell? ⟨b, o + i * 3 + 2, none⟩ = some (.int .i64 (ps.getD i sq0).2.2) := by
    rcases HCC.out with h | h
    ·have := HN.out; rw [h] at this; simp at this; omega
    ·exact h
   subst ha
   obtain ⟨x, hx⟩ : ∃ x, Hid (ps.getD k sq0 = x) := ⟨_, rfl⟩
   have HXK : Hid (SqOk x) := by
    rw [<- hx.out, List.getD_eq_getElem?_getD, List.getElem?_eq_getElem (by have := HN.out; omega)]
    exact HOK.out _ (List.getElem_mem _)
   obtain ⟨q0, q1, q2⟩ := hcell k hlt
   rw [hx.out] at q0 q1 q2
   have lift : ∀ off v, w.cell? ⟨ab, off, none⟩ = some v -> wr.cell? ⟨ab, off, none⟩ = some v := fun off v hv => by
    rw [R.out.bel.cell (p := ⟨ab, off, none⟩) (World.block_lt_of_cell? w ⟨ab, off, none⟩ hv)]; exact hv
   have k0 := lift _ _ q0
   have k1 := lift _ _ q1
   have k2 := lift _ _ q2
   obtain ⟨x1, x2, x3⟩ := x
   simp only at k0 k1 k2
   have hpb := R.out.pb
   have hpb' : wr.heap[P]? = some (.cells #[.func (.func 86) #[] #[], .func (.func 87) #[] #[], .func (.func 88) #[] #[]] 81 (0, 0)) := hpb
   have p0 : wr.cell? ⟨P, 0, none⟩ = some (.func (.func 86) #[] #[]) := by rw [cell_of_row wr P 0 _ _ (0, 0) hpb']; rfl
   have p1 : wr.cell? ⟨P, 1, none⟩ = some (.func (.func 87) #[] #[]) := by rw [cell_of_row wr P 1 _ _ (0, 0) hpb']; rfl
   have p2 : wr.cell? ⟨P, 2, none⟩ = some (.func (.func 88) #[] #[]) := by rw [cell_of_row wr P 2 _ _ (0, 0) hpb']; rfl
   have hPl := R.out.ltP
   have hki0 : (0 : Int) <= (k : Int) := by omega
   have hki1 : (k : Int) < (n : Int) := by omega
   clear q0 q1 q2 lift hcell hpb hpb'
   go_wp2_with fail
   obtain ⟨W2, hW2⟩ : ∃ W2, Hid (wr.alloc (.cells #[.int .i64 x1, .int .i64 x2, .int .i64 x3] 55) = W2) := ⟨_, rfl⟩
   rw [hW2.out]
   obtain ⟨B, hB⟩ : ∃ B, Hid (wr.heap.size = B) := ⟨_, rfl⟩
   rw [hB.out]
   have Y2 : Hid (Ry w W2 b P B rv (rsts ps k ++ rstK (x1, x2, x3) 0) x1 x2 x3) := by
    have hb : Below wr.heap.size wr W2 := by rw [<- hW2.out]; exact (Below.refl _ _).alloc (Nat.le_refl _) _
    refine ⟨by simpa [rstK] using R.out.blw hb, ?_⟩
    rw [<- hW2.out, <- hB.out]
    exact heap_alloc_new wr _
   have HRL : Hid ((rsts ps k).length <= 800000) := by
    show _ <= _
    have := zdl9 HOK.out k (by rw [HN.out]; omega)
    omega
   clear hW2 hB R k0 k1 k2 p0 p1 p2 hPl
   go_loopw [22] (fun i wr2 => ∃ (j : Nat) (rv2 : Value), j <= 3 /\ i = .int .i64 j /\ Hid (Ry w wr2 b P B rv2 (rsts ps k ++ rstK (x1, x2, x3) j) x1 x2 x3)) (fun i _ => 3 - (intOf i).toNat)
   case atStart => exact ⟨0, _, by omega, rfl, Y2⟩
   case round =>
    rename_i wrA
    clear Y2
    obtain ⟨j, rv2, hj, rfl, Y⟩ := hrel
    by_cases hj3 : j < 3
    ·obtain ⟨v, hv⟩ : ∃ v, Hid (vOf j (x1, x2, x3) = v) := ⟨_, rfl⟩
     have hvb := HXK.out j hj3
     rw [hv.out] at hvb
     have hc16 := cOf_le hvb
     obtain ⟨c, hc⟩ : ∃ c, Hid (cOf v = c) := ⟨_, rfl⟩
     rw [hc.out] at hc16
     obtain ⟨q, hq⟩ : ∃ q, Hid (rbs (c : Int) = q) := ⟨_, rfl⟩
     have hq15 : q <= 15 := by rw [<- hq.out]; unfold rbs; omega
     obtain ⟨f, hf⟩ : ∃ f, Hid (pFn j = f) := ⟨_, rfl⟩
     have ent : ∀ args w, (callFunc f args).run Tryz.prog w = .ok (.enter f args) w := by rw [<- hf.out]; exact zow9 j hj3
     have HPT : Hid (∀ W : World, Calls Tryz.prog f #[.agg #[.int .i64 x1, .int .i64 x2, .int .i64 x3]] W fun e w' => e = .returned (.int .i64 v) /\ Below W.heap.size W w') := fun W => by
      have := znl9 j hj3 (x1, x2, x3) HXK.out W
      rw [hv.out, hf.out] at this
      exact this
     have HCF : Hid (∀ W : World, Calls Tryz.prog 89 #[.int .i64 v] W fun e w' => e = .returned (.int .i64 (c : Int)) /\ w' = W) := fun W => by
      have := zia9 v W hvb
      rw [hc.out] at this
      exact this
     have HRB : Hid (∀ W : World, Calls Tryz.prog 94 #[.int .i64 (c : Int)] W fun e w' => e = .returned (.int .i64 (q : Int)) /\ w' = W) := fun W => by
      have := zfh9 (c : Int) W (by omega) (by omega)
      rw [hq.out] at this
      exact this
     have HAT : Hid ((#[.func (.func 86) #[] #[], .func (.func 87) #[] #[], .func (.func 88) #[] #[]] : Array Value)[j]? = some (.func (.func f) #[] #[])) := by rw [<- hf.out]; exact zuh9 j hj3
     have hb7 := Y.out.b7
     have s0 : wr.cell? ⟨B, 0, none⟩ = some (.int .i64 x1) := by rw [cell_of_row wr B 0 _ _ (0, 0) hb7]; rfl
     have s1 : wr.cell? ⟨B, 1, none⟩ = some (.int .i64 x2) := by rw [cell_of_row wr B 1 _ _ (0, 0) hb7]; rfl
     have s2 : wr.cell? ⟨B, 2, none⟩ = some (.int .i64 x3) := by rw [cell_of_row wr B 2 _ _ (0, 0) hb7]; rfl
     have hji : (j : Int) < 3 := by omega
     clear hb7
     go_wp2_with (refine zdt9 _ rfl (.tmp 21) (.tmp 22) rfl _ j _ rfl rfl hj3 HAT.out ?_)
     refine (HPT.out wr).mono ?_
     rintro e w5 ⟨rfl, hb5⟩
     have Y5 : Hid (Ry w w5 b P B rv2 (rsts ps k ++ rstK (x1, x2, x3) j) x1 x2 x3) := Y.out.blw hb5
     clear hb5 Y s0 s1 s2 HPT ent
     go_wp2_with fail
     refine (HCF.out w5).mono ?_
     rintro e w6 ⟨rfl, rfl⟩
     go_wp2_with fail
     refine (HRB.out w6).mono ?_
     rintro e w7 ⟨rfl, rfl⟩
     have hpw : (2 : Int) ^ q <= 32768 := by
      have h1 : (2 : Int) ^ q <= 2 ^ 15 := zs9 hq15
      have e : (2 : Int) ^ 15 = 32768 := by decide
      omega
     have hpw0 : (0 : Int) < 2 ^ q := Int.pow_pos (by decide)
     have hand := zvw9 v q hvb (by omega)
     have HMB : Hid (0 <= v % 2 ^ q /\ v % 2 ^ q < 2 ^ q) := ⟨Int.emod_nonneg _ (by omega), Int.emod_lt_of_pos _ hpw0⟩
     have HBO : Hid (bitsOf (v % 2 ^ q) q = bitsOf v q) := by
      show _ = _
      obtain ⟨a0, ha0⟩ := Int.eq_ofNat_of_zero_le hvb.1
      rw [ha0]
      have := zic9 a0 q
      push_cast at this
      exact this
     have HRS : Hid (rsts ps k ++ rstK (x1, x2, x3) (j + 1) = rsts ps k ++ rstK (x1, x2, x3) j ++ bitsOf v q) := by
      show _ = _
      simp only [rstK, rst]
      rw [hv.out, hc.out, hq.out, List.append_assoc]
     have HLN : Hid ((rsts ps k ++ rstK (x1, x2, x3) j).length <= 900000) := by
      show _ <= _
      have h3 := zhb9 HXK.out j (by omega)
      have h4 := HRL.out
      rw [List.length_append]
      omega
     obtain ⟨M, hM⟩ : ∃ M, Hid (v % 2 ^ q = M) := ⟨_, rfl⟩
     obtain ⟨T, hT⟩ : ∃ T, Hid ((2 : Int) ^ q = T) := ⟨_, rfl⟩
     rw [hM.out] at hand HMB HBO
     rw [hT.out] at hand HMB hpw hpw0
     have hw1 : IntKind.i64.wrap T = T := zi9 _ (by omega) (by omega)
     have hw2 : IntKind.i64.wrap (T - 1) = T - 1 := zi9 _ (by omega) (by omega)
     have hw3 : wrap64 (2 ^ q) = T := by rw [hT.out]; exact IntWalk.wrap64_in _ ⟨by omega, by omega⟩
     have hmn : min q 64 = q := by omega
     go_wp2_with fail
     refine (put_ok b rv2 q M _ w7 Y5.out.rz.wr (by have := HLN.out; omega) (by omega) HMB.out.1 (by rw [hT.out]; exact HMB.out.2)).mono ?_
     rintro e w8 ⟨rfl, rv8, h8⟩
     have Y8 : Hid (Ry w w8 b P B rv8 (rsts ps k ++ rstK (x1, x2, x3) (j + 1)) x1 x2 x3) := by
      have := Y5.out.put h8
      rw [HBO.out] at this
      rw [HRS.out]
      exact this
     clear h8 Y5 hand hw1 hw2 hw3 hpw hpw0 hmn
     go_wp2_with fail
     go_roundw
     case rel => exact ⟨j + 1, rv8, by omega, by go_num, Y8⟩
     case measure => simp [intOf]; omega
    ·obtain rfl : j = 3 := by omega
     have R6 : Hid (Rz w wr b P rv2 (rsts ps (k + 1))) := by
      have := Y.out.rz
      simp only [rsts]
      rw [hx.out]
      exact this
     clear Y
     go_wp2_with fail
     go_roundw
     case rel => exact ⟨k + 1, rv2, by omega, by go_num, R6⟩
     case measure => simp [intOf]; omega
  ·obtain rfl : k = n := by omega
   have HL : Hid ((rsts ps k).length <= 1000000) := by
    show _ <= _
    have := zdl9 HOK.out k (by rw [HN.out]; exact Nat.le_refl _)
    omega
   go_wp2_with fail
   refine (zgn9 b rv _ wr R.out.wr (by have := HL.out; omega)).mono ?_
   rintro e w6 ⟨v6, rfl, ho6, hb6, hf6⟩
   have O6 : Hid (Owns .u8 5 w6 v6 (pack (rsts ps k))) := ho6
   have B6 : Hid (Below w.heap.size w w6) := R.out.bel.trans (hb6.mono R.out.bel.size)
   have N6 : Hid (∀ j, v6.ownBlock = some j -> w.heap.size <= j) := fun j hj => Nat.le_trans R.out.bel.size (hf6 j hj)
   clear ho6 hb6 hf6 R
   go_wp2_with fail
   go_ret2
   exact ⟨v6, rfl, O6.out, B6.out, N6.out⟩
def strs (ps : List Sq) : Nat -> List Int
 | 0 => []
 | k + 1 => strs ps k ++ strR (cods k ps)
def stpB (ps : List Sq) : List Int :=
 if ps.length = 0 then digits ps.length else digits ps.length ++ strs ps 3 ++ digits (pack (rsts ps ps.length)).length ++ pack (rsts ps ps.length)
theorem zhi9 {ps : List Sq} (h : ∀ x ∈ ps, SqOk x) (h1 : 1 <= ps.length) (h2 : ps.length <= 16384) : ∀ k, k <= 3 -> (strs ps k).length <= 100300 * k
 | 0, _ => by simp [strs]
 | k + 1, hk => by
  have ih := zhi9 h h1 h2 k (by omega)
  have := zwb9 (zqi9 (i := k) (by omega) h h1 h2)
  simp only [strs, List.length_append]
  omega
theorem zif9 (i : Nat) (hi : i < 3) (g : Nat) (ov : Value) (E : Int) (xs : List Int) (sv : Value) (ps : List Sq) (w : World) (h : Sk w g ov E xs) (hr : RdS w sv ps) (hok : ∀ x ∈ ps, SqOk x) (h1 : 1 <= ps.length) (h2 : ps.length <= 16384) (hl : xs.length <= 1000000) :
  Calls Tryz.prog 54 #[.pointer (some ⟨g, 0, none⟩), sv, .func (.func (pFn i)) #[] #[]] w fun e w' => e = .returned (.tuple #[]) /\ ∃ ov', SkTo w g ov w' ov' E (xs ++ strR (cods i ps)) := zmo9 i hi (pFn i) rfl g ov E xs sv ps w h hr hok h1 h2 hl
theorem RdS.tch {S : Nat -> Prop} {w w' : World} {v : Value} {ps : List Sq} (h : RdS w v ps) (ht : Tch S w w') (hn : ∀ b, v.ownBlock = some b -> ¬ S b) : RdS w' v ps := by
 obtain ⟨a, cap, rfl, h1, h2, h3⟩ := h
 refine ⟨a, cap, rfl, h1, h2, ?_⟩
 rcases h3 with h3 | ⟨b, o, rfl, hc⟩
 ·exact .inl h3
 ·refine .inr ⟨b, o, rfl, fun i hi => ?_⟩
  obtain ⟨q0, q1, q2⟩ := hc i hi
  have lift : ∀ off v, w.cell? ⟨b, off, none⟩ = some v -> w'.cell? ⟨b, off, none⟩ = some v := fun off v hv => by
   rw [ht.cell (p := ⟨b, off, none⟩) (World.block_lt_of_cell? w ⟨b, off, none⟩ hv) (hn b rfl)]; exact hv
  exact ⟨lift _ _ q0, lift _ _ q1, lift _ _ q2⟩
theorem zjm9 (g : Nat) (ov : Value) (E : Int) (xs : List Int) (sv : Value) (ps : List Sq) (w : World) (h : Sk w g ov E xs) (hr : RdS w sv ps) (hok : ∀ x ∈ ps, SqOk x) (h2 : ps.length <= 16384) (hl : xs.length <= 100000)
  (hvg : sv.ownBlock ≠ some g) (hvo : ∀ k, sv.ownBlock = some k -> ov.ownBlock ≠ some k) (hold : ∀ k, sv.ownBlock = some k -> k < w.heap.size) :
  Calls Tryz.prog 28 #[.pointer (some ⟨g, 0, none⟩), sv] w fun e w' => e = .returned (.tuple #[]) /\ ∃ ov', SkTo w g ov w' ov' E (xs ++ stpB ps) := by
 have H : Hid (Sk w g ov E xs) := h
 have HR : Hid (RdS w sv ps) := hr
 have HOK : Hid (∀ x ∈ ps, SqOk x) := hok
 have HVG : Hid (sv.ownBlock ≠ some g) := hvg
 have HVO : Hid (∀ k, sv.ownBlock = some k -> ov.ownBlock ≠ some k /\ k < w.heap.size) := fun k hk => ⟨hvo k hk, hold k hk⟩
 obtain ⟨va, vc, hva, _⟩ := hr
 have hd := ze9 (ps.length : Int)
 clear h hok hvg hvo hold
 subst hva
 have HT : Hid (∀ (W : World) (o1 : Value) (E1 : Int) (z : List Int), SkTo w g ov W o1 E1 z -> RdS W (.slice va ps.length vc) ps) := fun W o1 E1 z hW =>
  HR.out.tch hW.tch (fun b hb e => by rcases e with e | e; (· exact HVG.out (by rw [hb, e])); (· exact (HVO.out b hb).1 e))
 unfold stpB
 by_cases h0 : ps.length = 0
 ·rw [if_pos h0]
  have h0b : ((ps.length : Int) == 0) = true := by simp [h0]
  clear h0
  go_enter Tryz.func28, Tryz.ntmps28
  go_wp2_with fail
  refine (zcv9 g ov E xs ps.length w H.out (by omega) (by omega)).mono ?_
  rintro e w1 ⟨rfl, ov1, h1⟩
  have S1 : Hid (SkTo w g ov w1 ov1 E (xs ++ digits (ps.length : Int))) := h1
  clear h1
  go_wp2_with fail
  (try simp only [Exit.inBlock, Exit.then])
  refine bodyPost_ret (results_none rfl _ _ _) rfl ?_
  exact ⟨rfl, ov1, S1.out⟩
 ·rw [if_neg h0]
  have h0b : ((ps.length : Int) == 0) = false := by rw [beq_eq_false_iff_ne]; omega
  have h1p : 1 <= ps.length := by omega
  clear h0
  go_enter Tryz.func28, Tryz.ntmps28
  go_wp2_with fail
  refine (zcv9 g ov E xs ps.length w H.out (by omega) (by omega)).mono ?_
  rintro e w1 ⟨rfl, ov1, h1⟩
  have S1 : Hid (SkTo w g ov w1 ov1 E (xs ++ digits (ps.length : Int))) := h1
  clear h1
  go_wp2_with fail
  refine (zgc9 w1).mono ?_
  rintro e w2 ⟨rfl, hb2⟩
  have S2 : Hid (SkTo w g ov w2 ov1 E (xs ++ digits (ps.length : Int) ++ strs ps 0)) := by have := S1.out.post hb2; simpa [strs, Hid] using this
  clear hb2 S1
  go_wp2_with fail
  go_loopw [14] (fun i wr => ∃ (k : Nat) (o1 : Value), k <= 3 /\ i = .int .i64 k /\ Hid (SkTo w g ov wr o1 E (xs ++ digits (ps.length : Int) ++ strs ps k))) (fun i _ => 3 - (intOf i).toNat)
  case atStart => exact ⟨0, _, by omega, rfl, S2⟩
  case round =>
   clear S2
   obtain ⟨k, o1, hk, rfl, S⟩ := hrel
   have HLL : Hid ((xs ++ digits (ps.length : Int) ++ strs ps k).length <= 500000) := by
    show _ <= _
    have := zhi9 HOK.out h1p h2 k hk
    rw [List.length_append, List.length_append]
    omega
   by_cases hlt : k < 3
   ·have hki : (k : Int) < 3 := by omega
    have HAT : Hid (pArr[k]? = some (.func (.func (pFn k)) #[] #[])) := zuh9 k hlt
    go_wp2_with (refine zdt9 _ rfl (.tmp 13) (.tmp 14) rfl _ k _ rfl rfl hlt HAT.out ?_)
    refine (zif9 k hlt g o1 E _ _ ps wr S.out.sk (HT.out _ _ _ _ S.out) HOK.out h1p h2 (by have := HLL.out; omega)).mono ?_
    rintro e w3 ⟨rfl, ov3, h3⟩
    have S3 : Hid (SkTo w g ov w3 ov3 E (xs ++ digits (ps.length : Int) ++ strs ps (k + 1))) := by
     have := S.out.trans h3
     simp only [strs]
     rw [<- List.append_assoc]
     exact this
    clear h3 S
    go_wp2_with fail
    go_roundw
    case rel => exact ⟨k + 1, ov3, by omega, by go_num, S3⟩
    case measure => simp [intOf]; omega
   ·obtain rfl : k = 3 := by omega
    go_wp2_with fail
    refine (zmx9 _ ps wr (HT.out _ _ _ _ S.out) HOK.out h2).mono ?_
    rintro e w3 ⟨v3, rfl, ho3, hb3, hf3⟩
    have S3 : Hid (SkTo w g ov w3 o1 E (xs ++ digits (ps.length : Int) ++ strs ps 3)) := S.out.post hb3
    have O3 : Hid (Owns .u8 5 w3 v3 (pack (rsts ps ps.length))) := ho3
    have hvg : v3.ownBlock ≠ some g := fun e => by have := hf3 g e; have := S.out.sk.lt; omega
    have HVO3 : Hid (∀ j, v3.ownBlock = some j -> o1.ownBlock ≠ some j) := fun j hj e => by have := hf3 j hj; have := S.out.sk.own.lt j e; omega
    have HPL : Hid ((pack (rsts ps ps.length)).length <= 1000000) := by
     show _ <= _
     rw [zc9]
     have := zdl9 HOK.out ps.length (Nat.le_refl _)
     omega
    clear ho3 hb3 hf3 S
    go_wp2_with fail
    refine (zdj9 g o1 E 0 _ v3 _ w3 S3.out.sk O3.out.rd hvg HVO3.out O3.out.lt (by have := HLL.out; omega) (by have := HPL.out; omega)).mono ?_
    rintro e w4 ⟨rfl, ov4, h4⟩
    rw [zm9] at h4
    have S4 : Hid (SkTo w g ov w4 ov4 E (xs ++ (digits (ps.length : Int) ++ strs ps 3 ++ digits (pack (rsts ps ps.length)).length ++ pack (rsts ps ps.length)))) := by
     have := S3.out.trans h4
     simpa only [List.append_assoc, Hid] using this
    clear h4 S3 O3
    go_wp2_with fail
    go_end0
    exact ⟨rfl, ov4, S4.out⟩
end Go.Proofs.YtobenjkacpipeaaGreat
