import Derived.Test.YtobenjkacpipeaaGreatPPkCut
import Derived.Lib.MakeNoZero
import Derived.Laws.IdiomCopy
import Derived.Lib.SlBuf
import Derived.Deep.RegionLaw
import Derived.Laws.BitsAllLaws
set_option maxRecDepth 100000
set_option linter.unusedVariables false
set_option linter.unusedSimpArgs false
set_option maxHeartbeats 8000000
namespace Go.Proofs.YtobenjkacpipeaaGreat
open Go.RowKit Pl
structure Nw (n1 : Nat) (w : World) (v : Value) (xs : List Int) : Prop where
 rd : Rd .u8 w v xs
 fz : ∀ b o n c, v = .slice (some ⟨b, o, none⟩) n c -> ∀ i, i < xs.length -> w.frozen? ⟨b, o + i, none⟩ = false
 new : ∀ k, v.ownBlock = some k -> n1 <= k
theorem Nw.of_owns {n1 : Nat} {w : World} {v : Value} {xs : List Int} (h : Owns .u8 5 w v xs) (hn : ∀ k, v.ownBlock = some k -> n1 <= k) : Nw n1 w v xs := by
 refine ⟨h.rd, fun b o n c e i hi => ?_, hn⟩
 obtain ⟨g, cap, e2, _, _, _, _, hf⟩ := h.shape (by omega)
 rw [e] at e2
 simp only [Value.slice.injEq, Option.some.injEq, Addr.mk.injEq, and_true] at e2
 obtain ⟨⟨rfl, rfl⟩, _⟩ := e2
 exact hf _
theorem Nw.nil (n1 : Nat) (w : World) : Nw n1 w (.slice none 0 0) [] := ⟨⟨none, 0, rfl, Nat.le_refl _, by unfold maxLen; omega, fun _ => rfl, .inl rfl⟩, fun _ _ _ _ e => (by cases e), fun k e => by cases e⟩
theorem Nw.tch {S : Nat -> Prop} {n1 : Nat} {w w' : World} {v : Value} {xs : List Int} (h : Nw n1 w v xs) (ht : Tch S w w') (hs : ∀ k, v.ownBlock = some k -> ¬ S k) : Nw n1 w' v xs := by
 refine ⟨h.rd.tch ht hs, fun b o n c e i hi => ?_, h.new⟩
 obtain ⟨a, cap, e2, _, _, _, hc⟩ := h.rd
 rcases hc with hx | ⟨b', o', e3, hc⟩
 ·rw [hx] at hi; simp at hi
 ·rw [e, e3] at e2
  simp only [Value.slice.injEq, Option.some.injEq, Addr.mk.injEq, and_true] at e2
  obtain ⟨⟨rfl, rfl⟩, _⟩ := e2
  rw [ht.frozen (p := ⟨b, o + i, none⟩) (World.block_lt_of_cell? w ⟨b, o + i, none⟩ (hc i hi)) (hs b (by rw [e]; rfl))]
  exact h.fz b o n c e i hi
theorem Nw.below {n1 : Nat} {w w' : World} {v : Value} {xs : List Int} (h : Nw n1 w v xs) (hb : Below w.heap.size w w') : Nw n1 w' v xs := h.tch (S := fun _ => False) (Tch.of_below hb) (fun _ _ e => e)
theorem zsm9 (v : Value) (xs : List Int) (w : World) (h : Rd .u8 w v xs) (hl : xs.length <= 140737488355328) :
  Calls Tryz.prog 69 #[v] w fun e w' => ∃ rv, e = .returned rv /\ Nw w.heap.size w' rv xs /\ Below w.heap.size w w' := by
 have H : Hid (Rd .u8 w v xs) := h
 have q22 : ∀ (w : World) (a : Option Addr) (n c n' c' : Nat), (binOp .eql 22 (.slice a n c) (.slice none n' c')).run Tryz.prog w = .ok (.bool a.isNone) w := fun w a n c n' c' => Lib.run_eql_slice_nil w _ _ a n c n' c' Tryz.underlying22
 obtain ⟨a, cap, rfl, h1, h2, h3, h4⟩ := h
 cases a with
 | none =>
  have hc0 := h3 rfl
  subst hc0
  have hx : xs = [] := List.eq_nil_of_length_eq_zero (by omega)
  subst hx
  clear h1 h2 h3 h4 H
  simp only [List.length_nil]
  go_enter Tryz.func69, Tryz.ntmps69
  go_wp2
  go_ret
  exact ⟨_, rfl, Nw.nil _ _, Below.refl _ _⟩
 | some ad =>
  have HE : Hid (Owns .u8 5 (w.alloc (.cells #[] 5)) (.slice (some ⟨w.heap.size, 0, none⟩) 0 0) []) := World.ownsRow_lit w #[] 0 (Nat.zero_le _) (by unfold maxLen; omega) rfl
  have HR : Hid (Rd .u8 (w.alloc (.cells #[] 5)) (.slice (some ad) xs.length cap) xs) := H.out.below ((Below.refl _ _).alloc (Nat.le_refl _) _)
  clear h1 h2 h3 h4
  go_enter Tryz.func69, Tryz.ntmps69
  go_wp2_with (at_builtin; refine zb9 _ rfl (.tmp 5) (.tmp 6) 22 rfl 5 .u8 1 elem8 _ [] rfl HE.out _ xs rfl HR.out (by simp; omega) (by simp; omega) ?_)
  intro v1 w1 ho hg
  have hb : Below w.heap.size w w1 := ((Below.refl _ _).alloc (Nat.le_refl _) _).trans (hg.tch.below (by simp) (fun k e => by simp only [Value.ownBlock, Option.some.injEq] at e; omega))
  have HN : Hid (Nw w.heap.size w1 v1 xs) := by
   refine Nw.of_owns (by simpa using ho) (fun k hk => ?_)
   rcases hg.fresh k hk with e | e
   ·simp only [Value.ownBlock, Option.some.injEq] at e; omega
   ·simp at e; omega
  have HB : Hid (Below w.heap.size w w1) := hb
  clear ho hg hb
  go_wp2_with fail
  go_ret
  exact ⟨v1, rfl, HN.out, HB.out⟩
theorem zrp9 (n : Nat) (hn : n <= 65536) (w : World) :
  Calls Tryz.prog 129 #[.int .u64 1, .int .u64 (n : Int)] w fun e w' => e = .returned (.tuple #[.int .u64 0, .int .u64 (n : Int)]) /\ w' = w := by
 have h1 : bits .and .u64 (n : Int) 4294967295 = (n : Int) := by
  have h := bits_and_u64_nat n 4294967295 (by omega) (by omega)
  have e : n &&& 4294967295 = n % 4294967296 := Nat.and_two_pow_sub_one_eq_mod n 32
  rw [e, Nat.mod_eq_of_lt (by omega)] at h
  exact h
 have h2 : bits .and .u64 1 4294967295 = 1 := by decide +kernel
 have h3 : (n : Int) / 4294967296 = 0 := by omega
 have h4 : bits .and .u64 0 4294967295 = 0 := by decide +kernel
 have h5 : IntKind.u64.wrap (n : Int) = (n : Int) := by rw [IntKind.wrap_u64]; omega
 go_enter Tryz.func129, Tryz.ntmps129
 go_wp2
 go_ret2
 exact ⟨rfl, rfl⟩
theorem mul_one' (n : Nat) (hn : n <= 65536) (w : World) :
  Calls Tryz.prog 99 #[.int .u64 1, .int .u64 (n : Int)] w fun e w' => e = .returned (.tuple #[.int .u64 0, .int .u64 (n : Int)]) /\ w' = w := by
 go_enter Tryz.func99, Tryz.ntmps99
 go_wp2_with fail
 refine (zrp9 n hn w).mono ?_
 rintro e w1 ⟨rfl, rfl⟩
 go_wp2_with fail
 go_ret2
 exact ⟨rfl, rfl⟩
structure Bf (w0 W : World) (h N : Nat) (x : Int) (k : Nat) : Prop where
 below : Below h w0 W
 there : ∀ j, j < N -> (W.cell? ⟨h, j, none⟩).isSome = true
 free : ∀ j, j < N -> W.frozen? ⟨h, j, none⟩ = false
 holds : ∀ j, j < k -> W.cell? ⟨h, j, none⟩ = some (.int .u8 x)
 fits : k <= N
theorem Bf.more {w0 W : World} {h N : Nat} {x : Int} {k : Nat} (hb : Bf w0 W h N x k) (d : Nat) (hd : k + d <= N) : Bf w0 (W.setCells h k (List.replicate d (.int .u8 x))) h N x (k + d) := by
 have hin := World.cell?_setCells_in h (List.replicate d (Value.int .u8 x)) k W (fun j hj => by rw [List.length_replicate] at hj; exact hb.there _ (by omega))
 have hout := World.cell?_setCells_out h (List.replicate d (Value.int .u8 x)) k W
 have hcell : ∀ j, k <= j -> j < k + d -> (W.setCells h k (List.replicate d (.int .u8 x))).cell? ⟨h, j, none⟩ = some (.int .u8 x) := fun j h1 h2 => by
  obtain ⟨e, rfl⟩ : ∃ e, j = k + e := ⟨j - k, by omega⟩
  rw [hin e (by rw [List.length_replicate]; omega)]
  simp
 have hold : ∀ j, ¬ (k <= j /\ j < k + d) -> (W.setCells h k (List.replicate d (.int .u8 x))).cell? ⟨h, j, none⟩ = W.cell? ⟨h, j, none⟩ := fun j hj => by
  rw [hout ⟨h, j, none⟩ (fun _ _ => by rw [List.length_replicate]; show j < _ ∨ _ <= j; omega)]
 refine ⟨Lib.below_setCells h (Nat.le_refl _) _ _ hb.below, fun j hj => ?_, fun j hj => by rw [World.frozen?_setCells]; exact hb.free j hj, fun j hj => ?_, hd⟩
 ·by_cases e : k <= j /\ j < k + d
  ·rw [hcell j e.1 e.2]; rfl
  ·rw [hold j e]; exact hb.there j hj
 ·by_cases e : k <= j
  ·exact hcell j e hj
  ·rw [hold j (by omega)]; exact hb.holds j (by omega)
section
variable {P : Program}
theorem zdy9 {ops : Array Oper} {o : Oper} {a : Act} {w : World} {K : Act -> World -> Prop} {Q : Exit -> Act -> World -> Prop} {E : Prop} (hgd : o.guard = none) (d s : Operand) (t t' : TypeId)
  (ho : o.op = .call { callee := .builtin .copy, args := #[d, s], argTypes := #[t, t'] }) (v u : Value) (hd : a.eval d = v) (hs : a.eval s = u) {v' : Value} {w' : World}
  (hr : (Builtin.copy_ #[t, t'] o.type #[v, u]).run P w = .ok v' w') (h : K (a.put o.dst v') w') :
  if Region.wanted o (yielded ops a.tmps) = true then Oper.wp P o a w K Q else E := by
 have hw : Region.wanted o (yielded ops a.tmps) = true := by simp [Region.wanted, hgd]
 rw [if_pos hw]
 unfold Oper.wp
 simp [execOp, ho, resolve, invoke, builtin, hd, hs, hr, Result.andThen]
 exact h
end
theorem info1 : (Tryz.prog.info? 5).map (·.size) = some 1 := by kernel_rfl
theorem Bf.copy {w0 W : World} {h N : Nat} {x : Int} {k : Nat} (hb : Bf w0 W h N x k) (ad : Addr) (c cap : Nat) (hs : ∀ j, j < c -> W.cell? (ad.add j) = some (.int .u8 x)) (ty : TypeId) :
  (Builtin.copy_ #[22, 22] ty #[.slice (some ⟨h, k, none⟩) (N - k) (N - k), .slice (some ad) c cap]).run Tryz.prog W = .ok (.int .i64 ((min c (N - k) : Nat) : Int)) (W.setCells h k (List.replicate (min c (N - k)) (.int .u8 x))) := by
 have h1 := run_copy_cells (P := Tryz.prog) W 22 22 ty 5 h k (N - k) (N - k) ad c cap (List.replicate (min c (N - k)) (.int .u8 x)) Tryz.underlying22 info1 (by rw [List.length_replicate])
  (fun j v hv => by
   rw [List.getElem?_replicate] at hv
   split at hv
   ·cases hv
    exact hs j (by omega)
   ·cases hv)
  (fun j hj => by rw [List.length_replicate] at hj; exact hb.there _ (by omega))
  (fun j hj => by rw [List.length_replicate] at hj; exact hb.free _ (by omega))
  (fun v hv => by rw [List.mem_replicate] at hv; rw [hv.2]; rfl)
 rw [List.length_replicate] at h1
 exact h1
theorem zpq9 (g : Nat) (x : Int) (n : Nat) (w : World) (hg : w.cell? ⟨g, 0, none⟩ = some (.int .u8 x)) (hn : n <= 65536) :
  Calls Tryz.prog 70 #[.slice (some ⟨g, 0, none⟩) 1 1, .int .i64 (n : Int)] w fun e w' => ∃ rv, e = .returned rv /\ Nw w.heap.size w' rv (List.replicate n x) /\ Below w.heap.size w w' := by
 by_cases h0 : n = 0
 ·subst h0
  have HN : Hid (Nw w.heap.size (w.alloc (.cells #[] 5)) (.slice (some ⟨w.heap.size, 0, none⟩) 0 0) []) :=
   Nw.of_owns (World.ownsRow_lit w #[] 0 (Nat.zero_le _) (by unfold maxLen; omega) rfl) (fun k hk => by simp only [Value.ownBlock, Option.some.injEq] at hk; omega)
  go_enter Tryz.func70, Tryz.ntmps70
  go_wp2_with fail
  go_ret
  exact ⟨_, rfl, HN.out, (Below.refl _ _).alloc (Nat.le_refl _) _⟩
 ·have hn1 : 1 <= n := by omega
  have hnz : ((n : Int) == 0) = false := by rw [beq_eq_false_iff_ne]; omega
  have hconv : (n : Int) % 18446744073709551616 = (n : Int) := by omega
  obtain ⟨cs, hrunM, hle, hmax⟩ := Lib.run_makeNoZero (P := Tryz.prog) w #[3] 22 5 Tryz.underlying22 n (by omega)
  have hcall : (callFunc 100 #[.int .i64 (n : Int)]).run Tryz.prog w = .ok (.value (.slice (some ⟨w.heap.size, 0, none⟩) n cs.size)) ((w.alloc (.cells cs 5)).drewN 2) := by
   rw [run_callFunc_extern Tryz.func100 (by kernel_rfl) (by kernel_rfl) (by kernel_rfl) (e := Extern.BytealgMakeNoZero.makeNoZero #[3] #[22]) (by kernel_rfl), hrunM]
   rfl
  clear hrunM
  have i0 : (0 : Int) <= (n : Int) := by omega
  have i1 : (n : Int) <= (cs.size : Int) := by omega
  obtain ⟨W0, hW0⟩ : ∃ W0, Hid ((w.alloc (.cells cs 5)).drewN 2 = W0) := ⟨_, rfl⟩
  have hB0 := Lib.Buf.start w cs 5 n 2 hle
  rw [hW0.out] at hcall hB0
  have B0 : Hid (Bf w W0 w.heap.size n x 0) := ⟨hB0.below, hB0.there, hB0.free, fun j hj => by omega, Nat.zero_le _⟩
  have HG : Hid (w.cell? ⟨g, 0, none⟩ = some (.int .u8 x)) := hg
  clear hB0 hmax
  have hgc : W0.cell? ⟨g, 0, none⟩ = some (.int .u8 x) := by rw [B0.out.below.cell (p := ⟨g, 0, none⟩) (World.block_lt_of_cell? w ⟨g, 0, none⟩ hg)]; exact hg
  have hcp0 := B0.out.copy ⟨g, 0, none⟩ 1 1 (fun j hj => by obtain rfl : j = 0 := by omega
                                                            exact hgc) 3
  have B1 : Hid (Bf w (W0.setCells w.heap.size 0 (List.replicate (min 1 (n - 0)) (.int .u8 x))) w.heap.size n x 1) := by
   have := B0.out.more (min 1 (n - 0)) (by omega)
   rw [show min 1 (n - 0) = 1 by omega] at this ⊢
   exact this
  obtain ⟨W1, hW1⟩ : ∃ W1, Hid (W0.setCells w.heap.size 0 (List.replicate (min 1 (n - 0)) (.int .u8 x)) = W1) := ⟨_, rfl⟩
  rw [hW1.out] at hcp0 B1
  rw [show min 1 (n - 0) = 1 by omega, Nat.sub_zero] at hcp0
  obtain ⟨h, hh⟩ : ∃ h, w.heap.size = h := ⟨_, rfl⟩
  have HH : Hid (w.heap.size = h) := hh
  rw [hh] at hcp0 B1 hcall
  clear hg hgc HG B0 hW0 hW1 hh
  have hz : decide ((n : Int) < 0) = false := by rw [decide_eq_false_iff_not]; omega
  have hzz : decide ((9223372036854775807 : Int) < (n : Int)) = false := by rw [decide_eq_false_iff_not]; omega
  obtain ⟨M, hM⟩ : ∃ M : Nat, (n <= 8192 /\ M = n) ∨ (8192 < n /\ M = 8192) := by
   by_cases e : n <= 8192
   ·exact ⟨n, .inl ⟨e, rfl⟩⟩
   ·exact ⟨8192, .inr ⟨by omega, rfl⟩⟩
  have hM1 : 1 <= M /\ M <= 8192 := by omega
  rcases hM with ⟨hM, rfl⟩ | ⟨hM, rfl⟩
  ·have h8 : decide ((8192 : Int) < (M : Int)) = false := by rw [decide_eq_false_iff_not]; omega
   go_enter Tryz.func70, Tryz.ntmps70
   go_wp2_with fail
   refine (mul_one' M hn w).mono ?_
   rintro e w1 ⟨rfl, rfl⟩
   go_wp2_with fail
   go_loopw [10] (fun i wr => ∃ k : Nat, 1 <= k /\ k <= M /\ i = .int .i64 k /\ Hid (Bf w1 wr h M x k)) (fun i _ => M - (intOf i).toNat)
   case atStart => exact ⟨1, by omega, by omega, rfl, B1⟩
   case round =>
    clear B1
    obtain ⟨k, hk1, hk, rfl, B⟩ := hrel
    by_cases hlt : k < M
    ·obtain ⟨c, hc⟩ : ∃ c : Nat, min k M = c := ⟨_, rfl⟩
     have hmin : min (k : Int) (M : Int) = (c : Int) := by omega
     have hc2 : c <= k := by omega
     have hc1 : 1 <= c := by omega
     clear hc
     obtain ⟨d, hd⟩ : ∃ d : Nat, min c (M - k) = d := ⟨_, rfl⟩
     have hd1 : 1 <= d /\ k + d <= M := by omega
     have HCP : Hid (∀ W, Bf w1 W h M x k -> (Builtin.copy_ #[22, 22] 3 #[.slice (some ⟨h, k, none⟩) (M - k) (M - k), .slice (some ⟨h, 0, none⟩) c M]).run Tryz.prog W = .ok (.int .i64 (d : Int)) (W.setCells h k (List.replicate d (.int .u8 x)))) := fun W hW => by
      have := hW.copy ⟨h, 0, none⟩ c M (fun j hj => by rw [Addr.add_lit, Nat.zero_add]; exact hW.holds j (by omega)) 3
      rw [hd] at this
      exact this
     clear hd
     have HNX : Hid (∀ W, Bf w1 W h M x k -> Bf w1 (W.setCells h k (List.replicate d (.int .u8 x))) h M x (k + d)) := fun W hW => hW.more d hd1.2
     have HDR : Hid (∀ (W : World) (q : Nat), Bf w1 W h M x k -> Bf w1 (W.drewN q) h M x k) := fun W q hW => ⟨hW.below.trans (Below.of_drewN _ _ _), hW.there, hW.free, hW.holds, hW.fits⟩
     have hki0 : (0 : Int) <= (k : Int) := by omega
     have hki1 : (k : Int) <= (M : Int) := by omega
     have hci0 : (0 : Int) <= (c : Int) := by omega
     have hci1 : (c : Int) <= (M : Int) := by omega
     have hne : ¬ M = k := by omega
     have hk0 : ¬ k = 0 := by omega
     go_wp2_with fail
     go_region_law (refine zdy9 rfl (.tmp 70) (.tmp 73) 22 22 rfl (.slice (some ⟨h, k, none⟩) (M - k) (M - k)) (.slice (some ⟨h, 0, none⟩) c M) (by simp [Act.eval, Act.put]) (by simp [Act.eval, Act.put]) (HCP.out _ (by first | exact B.out | exact HDR.out _ _ B.out)) ?_)
     have hwk : IntKind.i64.wrap ((k : Int) + (d : Int)) = (k : Int) + (d : Int) := zi9 _ (by omega) (by omega)
     simp only [List.getElem_toArray, List.getElem_cons_succ, List.getElem_cons_zero, Act.put, List.setIfInBounds_toArray, List.set_cons_zero, List.set_cons_succ, hwk]
     go_wp2_with fail
     go_roundw
     case rel => exact ⟨k + d, by omega, by omega, by go_num, by first | exact HNX.out _ B.out | exact HNX.out _ (HDR.out _ _ B.out)⟩
     case measure => simp [intOf]; omega
    ·obtain rfl : k = M := by omega
     have HN : Hid (Nw w1.heap.size wr (.slice (some ⟨h, 0, none⟩) k k) (List.replicate k x)) := by
      refine ⟨⟨_, k, by rw [List.length_replicate], by rw [List.length_replicate]; exact Nat.le_refl _, by unfold maxLen; omega, (fun e => by cases e), .inr ⟨h, 0, rfl, fun i hi => ?_⟩⟩, fun b o n c e i hi => ?_, fun j hj => ?_⟩
      ·rw [List.length_replicate] at hi
       rw [Nat.zero_add, B.out.holds i hi]
       simp [List.getD_eq_getElem?_getD, List.getElem?_replicate, hi]
      ·rw [List.length_replicate] at hi
       simp only [Value.slice.injEq, Option.some.injEq, Addr.mk.injEq, and_true] at e
       obtain ⟨⟨rfl, rfl⟩, _⟩ := e
       rw [Nat.zero_add]
       exact B.out.free i hi
      ·simp only [Value.ownBlock, Option.some.injEq] at hj
       have := HH.out
       omega
     have HB : Hid (Below w1.heap.size w1 wr) := by rw [HH.out]; exact B.out.below
     go_wp2_with fail
     go_ret
     exact ⟨_, rfl, HN.out, HB.out⟩
  ·have h8 : decide ((8192 : Int) < (n : Int)) = true := by rw [decide_eq_true_eq]; omega
   go_enter Tryz.func70, Tryz.ntmps70
   go_wp2_with fail
   refine (mul_one' n hn w).mono ?_
   rintro e w1 ⟨rfl, rfl⟩
   go_wp2_with fail
   go_loopw [10] (fun i wr => ∃ k : Nat, 1 <= k /\ k <= n /\ i = .int .i64 k /\ Hid (Bf w1 wr h n x k)) (fun i _ => n - (intOf i).toNat)
   case atStart => exact ⟨1, by omega, by omega, rfl, B1⟩
   case round =>
    clear B1
    obtain ⟨k, hk1, hk, rfl, B⟩ := hrel
    by_cases hlt : k < n
    ·obtain ⟨c, hc⟩ : ∃ c : Nat, min k 8192 = c := ⟨_, rfl⟩
     have hmin : min (k : Int) 8192 = (c : Int) := by omega
     have hc2 : c <= k := by omega
     have hc1 : 1 <= c := by omega
     clear hc
     obtain ⟨d, hd⟩ : ∃ d : Nat, min c (n - k) = d := ⟨_, rfl⟩
     have hd1 : 1 <= d /\ k + d <= n := by omega
     have HCP : Hid (∀ W, Bf w1 W h n x k -> (Builtin.copy_ #[22, 22] 3 #[.slice (some ⟨h, k, none⟩) (n - k) (n - k), .slice (some ⟨h, 0, none⟩) c n]).run Tryz.prog W = .ok (.int .i64 (d : Int)) (W.setCells h k (List.replicate d (.int .u8 x)))) := fun W hW => by
      have := hW.copy ⟨h, 0, none⟩ c n (fun j hj => by rw [Addr.add_lit, Nat.zero_add]; exact hW.holds j (by omega)) 3
      rw [hd] at this
      exact this
     clear hd
     have HNX : Hid (∀ W, Bf w1 W h n x k -> Bf w1 (W.setCells h k (List.replicate d (.int .u8 x))) h n x (k + d)) := fun W hW => hW.more d hd1.2
     have HDR : Hid (∀ (W : World) (q : Nat), Bf w1 W h n x k -> Bf w1 (W.drewN q) h n x k) := fun W q hW => ⟨hW.below.trans (Below.of_drewN _ _ _), hW.there, hW.free, hW.holds, hW.fits⟩
     have hki0 : (0 : Int) <= (k : Int) := by omega
     have hki1 : (k : Int) <= (n : Int) := by omega
     have hci0 : (0 : Int) <= (c : Int) := by omega
     have hci1 : (c : Int) <= (n : Int) := by omega
     have hne : ¬ n = k := by omega
     have hk0 : ¬ k = 0 := by omega
     go_wp2_with fail
     go_region_law (refine zdy9 rfl (.tmp 70) (.tmp 73) 22 22 rfl (.slice (some ⟨h, k, none⟩) (n - k) (n - k)) (.slice (some ⟨h, 0, none⟩) c n) (by simp [Act.eval, Act.put]) (by simp [Act.eval, Act.put]) (HCP.out _ (by first | exact B.out | exact HDR.out _ _ B.out)) ?_)
     have hwk : IntKind.i64.wrap ((k : Int) + (d : Int)) = (k : Int) + (d : Int) := zi9 _ (by omega) (by omega)
     simp only [List.getElem_toArray, List.getElem_cons_succ, List.getElem_cons_zero, Act.put, List.setIfInBounds_toArray, List.set_cons_zero, List.set_cons_succ, hwk]
     go_wp2_with fail
     go_roundw
     case rel => exact ⟨k + d, by omega, by omega, by go_num, by first | exact HNX.out _ B.out | exact HNX.out _ (HDR.out _ _ B.out)⟩
     case measure => simp [intOf]; omega
    ·obtain rfl : k = n := by omega
     have HN : Hid (Nw w1.heap.size wr (.slice (some ⟨h, 0, none⟩) k k) (List.replicate k x)) := by
      refine ⟨⟨_, k, by rw [List.length_replicate], by rw [List.length_replicate]; exact Nat.le_refl _, by unfold maxLen; omega, (fun e => by cases e), .inr ⟨h, 0, rfl, fun i hi => ?_⟩⟩, fun b o n c e i hi => ?_, fun j hj => ?_⟩
      ·rw [List.length_replicate] at hi
       rw [Nat.zero_add, B.out.holds i hi]
       simp [List.getD_eq_getElem?_getD, List.getElem?_replicate, hi]
      ·rw [List.length_replicate] at hi
       simp only [Value.slice.injEq, Option.some.injEq, Addr.mk.injEq, and_true] at e
       obtain ⟨⟨rfl, rfl⟩, _⟩ := e
       rw [Nat.zero_add]
       exact B.out.free i hi
      ·simp only [Value.ownBlock, Option.some.injEq] at hj
       have := HH.out
       omega
     have HB : Hid (Below w1.heap.size w1 wr) := by rw [HH.out]; exact B.out.below
     go_wp2_with fail
     go_ret
     exact ⟨_, rfl, HN.out, HB.out⟩
end Go.Proofs.YtobenjkacpipeaaGreat
