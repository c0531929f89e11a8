import Derived.RangeFuncNested
import Derived.RangeFuncBound
import Derived.RangeFuncCalls
import Derived.RangeFuncLeaves
import Derived.Shelf.Abstract
import Derived.Shelf.RegionOpen
import Derived.WalkKit
import Derived.OwnWalkIn
import Derived.TacticsInMore
import Derived.LoopNIn
import Derived.LoopIn
import Derived.Test.YtobenjkacpipeaaGreatPMem
import Derived.Test.YtobenjkacpipeaaGreatProg
import Derived.Test.YtobenjkacpipeaaGreatPFCod
import Derived.Test.YtobenjkacpipeaaGreatPTakeX
import Derived.OrdersIn
import Derived.OrdersHeld
import Derived.Deep.RegionHeld
set_option maxRecDepth 100000
set_option linter.unusedVariables false
set_option linter.unusedSimpArgs false
set_option maxHeartbeats 8000000
namespace Go.Proofs.YtobenjkacpipeaaGreat
open Go.RowKit Go.Shelf
attribute [local go_sem] Oper.semAt_some
def uptoB {α : Type} (g : Nat -> α) (k : Nat) : List α := (List.range k).map g
theorem zqm9 {α : Type} (g : Nat -> α) (k : Nat) : uptoB g (k + 1) = uptoB g k ++ [g k] := by simp [uptoB, List.range_succ]
theorem zkw9 {α : Type} (g : Nat -> α) (k : Nat) : (uptoB g k).length = k := by simp [uptoB]
def KB (n₀ Bs : Nat) (W W' : World) : Prop := Below n₀ W W' /\ ∀ v, W.cell? ⟨Bs, 0, none⟩ = some v -> W'.cell? ⟨Bs, 0, none⟩ = some v
theorem KB.t {n₀ Bs : Nat} {A B C : World} (h : KB n₀ Bs A B) (k : KB n₀ Bs B C) : KB n₀ Bs A C := ⟨h.1.trans k.1, fun v hv => k.2 v (h.2 v hv)⟩
theorem KB.b {n₀ Bs : Nat} {w : World} (hn : n₀ <= w.heap.size) (W : World) (l : Nat) (o o' : Obj) (hl : w.heap.size <= l) (h : W.heap[l]? = some o) (hc : o.isCells = false) (hw : o.isWalk = false) : KB n₀ Bs W (W.putObj l o') := by
 refine ⟨belowK_b hn W l o o' hl h hc hw, fun v hv => ?_⟩
 exact cell_kept hv (grownBy_putObj' W l o') (fun r e => by cases e; exact ⟨_, h, hc⟩)
set_option maxRecDepth 100000 in
theorem zvo9 {α : Type} (encs : α -> Array Value) (g : Nat -> α) (F : Fence) (n : Nat) (h8 : F.fn 145) (hro : F.round = none) (hn : 1 <= n) (l Bs n₀ b off cap : Nat) (zs : List Int) (hreach : zs.length * 8 <= 140737488351232) (hb : b < n₀) (hg : ∀ j, j < zs.length -> encs (g j) = #[.int .i64 ((zs.length - 1 - j : Nat) : Int), .int .i64 (zs[zs.length - 1 - j]?.getD 0)]) (J Jx : List α -> World -> Prop)
  (hY : ∀ pre x W, J pre W -> pre.length < zs.length -> YieldAt F (n - 1) Tryz.prog l (encs x) W fun e W' =>
   (e = .returned (.bool true) /\ J (pre ++ [x]) W' /\ KB n₀ Bs W W') ∨ (e = .returned (.bool false) /\ Jx (pre ++ [x]) W'))
  (W : World) (hBs : W.cell? ⟨Bs, 0, none⟩ = some (.slice (some ⟨b, off, none⟩) zs.length cap)) (hc : ∀ j, j < zs.length -> W.cell? ⟨b, off + j, none⟩ = some (.int .i64 (zs[j]?.getD 0))) (h0 : J [] W) :
  CallsIn F n Tryz.prog 145 #[.func (.yield l) #[] #[], .pointer (some ⟨Bs, 0, none⟩)] W fun e W' => (∃ v, e = .returned v) ∧
   ((∃ ys, ys = uptoB g zs.length /\ J ys W') ∨ (∃ pre, (∃ k, k <= zs.length /\ pre = uptoB g k) /\ Jx pre W')) := by
 refine callsIn_of_wp Tryz.func145 rfl h8 ?_ hro
 simp only [Tryz.ntmps145, List.size_toArray, List.length_cons, List.length_nil, Nat.reduceAdd, Nat.reduceSub, Array.replicate_succ, Array.replicate_zero, List.push_toArray, List.append_toArray, List.nil_append, List.cons_append]
 gi_wp2
 gi_loopw [3] (fun i wr => ∃ k : Nat, k <= zs.length /\ i = .int .i64 ((zs.length : Int) - 1 - k) /\ J (uptoB g k) wr /\ KB n₀ Bs W wr)
  (fun i _ => ((intOf i) + 1).toNat)
 case atStart => exact ⟨0, Nat.zero_le _, by simp, h0, Below.refl _ _, fun _ h => h⟩
 case round =>
  obtain ⟨k, hk, rfl, hJs, hnx⟩ := hrel
  have hbx : wr.cell? ⟨Bs, 0, none⟩ = some (.slice (some ⟨b, off, none⟩) zs.length cap) := hnx.2 _ hBs
  by_cases hlt : k < zs.length
  ·obtain ⟨m, hm⟩ : ∃ m : Nat, zs.length - 1 - k = m := ⟨_, rfl⟩
   have hmI : (zs.length : Int) - 1 - k = (m : Int) := by omega
   have hml : m < zs.length := by omega
   have hcx : wr.cell? ⟨b, off + m, none⟩ = some (.int .i64 (zs[m]?.getD 0)) := (hnx.1.cell (p := ⟨b, off + m, none⟩) hb).trans (hc m hml)
   obtain ⟨fn, tmps, assign, body, hy, hR⟩ := hY _ (g k) wr hJs (by rw [zkw9]; exact hlt)
   rw [hg k hlt, hm] at hy
   obtain ⟨y, hye⟩ : ∃ y, Hid (zs[m]?.getD 0 = y) := ⟨_, rfl⟩
   rw [hye.out] at hcx hy
   have HU : Hid (uptoB g (k + 1) = uptoB g k ++ [g k]) := zqm9 g k
   rw [hmI]
   have HM : Hid (zs.length - 1 - k = m) := hm
   clear hm
   have HMI : Hid ((zs.length : Int) - 1 - ((k + 1 : Nat) : Int) = (m : Int) - 1) := by show _ = _; omega
   clear hmI
   gi_wp2
   refine hR.mono ?_
   rintro e W3 (⟨rfl, hJ3, hk3⟩ | ⟨rfl, hJx3⟩)
   ·gi_wp2
    go_roundw
    case rel => exact ⟨k + 1, by omega, by rw [HMI.out], by rw [HU.out]; exact hJ3, hnx.t hk3⟩
    case measure => simp [intOf]
   ·gi_wp2
    refine bodyPost_ret (results_none rfl _ _ _) rfl ?_
    exact ⟨⟨_, rfl⟩, .inr ⟨_, ⟨k + 1, by omega, HU.out.symm⟩, hJx3⟩⟩
  ·obtain rfl : k = zs.length := by omega
   have e1 : (zs.length : Int) - 1 - (zs.length : Int) = -1 := by omega
   rw [e1]
   gi_wp2
   go_end0
   exact ⟨⟨_, rfl⟩, .inl ⟨_, rfl, hJs⟩⟩
set_option maxRecDepth 100000 in
theorem zkq9 {α : Type} (F : Fence) (n : Nat) (h8 : F.fn 145) (hro : F.round = none) (l Bs cap : Nat) (a : Option Addr) (J : List α -> World -> Prop) (W : World) (hBs : W.cell? ⟨Bs, 0, none⟩ = some (.slice a 0 cap)) (h0 : J [] W) :
  CallsIn F n Tryz.prog 145 #[.func (.yield l) #[] #[], .pointer (some ⟨Bs, 0, none⟩)] W fun e W' => (∃ v, e = .returned v) /\ J [] W' := by
 refine callsIn_of_wp Tryz.func145 rfl h8 ?_ hro
 simp only [Tryz.ntmps145, List.size_toArray, List.length_cons, List.length_nil, Nat.reduceAdd, Nat.reduceSub, Array.replicate_succ, Array.replicate_zero, List.push_toArray, List.append_toArray, List.nil_append, List.cons_append]
 gi_wp2
 gi_loopw [3] (fun i wr => i = .int .i64 (-1) /\ J [] wr) (fun _ _ => 0)
 case atStart => exact ⟨rfl, h0⟩
 case round =>
  obtain ⟨rfl, hJs⟩ := hrel
  gi_wp2
  go_end0
  exact ⟨⟨_, rfl⟩, hJs⟩
theorem zph9 {α : Type} (encs : α -> Array Value) (g : Nat -> α) (F : Fence) (n : Nat) (h8 : F.fn 145) (hro : F.round = none) (hn : 1 <= n) (Bs n₀ : Nat) (a : Option Addr) (cap : Nat) (zs : List Int) (hreach : zs.length * 8 <= 140737488351232) (w : World) (hBs : Bs < w.heap.size) (hn₀ : n₀ <= w.heap.size)
  (hc : w.cell? ⟨Bs, 0, none⟩ = some (.slice a zs.length cap)) (hI : zs = [] ∨ ∃ b off, a = some ⟨b, off, none⟩ /\ b < n₀ /\ ∀ j, j < zs.length -> w.cell? ⟨b, off + j, none⟩ = some (.int .i64 (zs.getD j 0)))
  (hg : ∀ j, j < zs.length -> encs (g j) = #[.int .i64 ((zs.length - 1 - j : Nat) : Int), .int .i64 (zs[zs.length - 1 - j]?.getD 0)]) :
  SeqStopsK F n Tryz.prog 145 #[.pointer (some ⟨Bs, 0, none⟩)] encs (KB n₀ Bs) (fun ys => ys = uptoB g zs.length)
   (fun pre => ∃ k, k <= zs.length /\ pre = uptoB g k) zs.length w := fun l J Jx W hW _ _ hY h0 => by
 have hc' := (hW.cell (p := ⟨Bs, 0, none⟩) hBs).trans hc
 rcases hI with rfl | ⟨b, off, rfl, hb, hcs⟩
 ·exact (zkq9 F n h8 hro l Bs cap a J W hc' h0).mono fun e W' ⟨he, hj⟩ => ⟨he, .inl ⟨_, rfl, hj⟩⟩
 ·refine zvo9 encs g F n h8 hro hn l Bs n₀ b off cap zs hreach hb hg J Jx hY W hc' (fun j hj => ?_) h0
  rw [(hW.mono hn₀).cell (p := ⟨b, off + j, none⟩) hb, hcs j hj, List.getD_eq_getElem?_getD]
theorem zaat9 (F : Fence) (n : Nat) (h6 : F.fn 123) (hro : F.round = none) (a : Option Addr) (len cap : Nat) (w : World) :
  CallsIn F n Tryz.prog 123 #[.slice a len cap] w fun e w' => e = .returned (.func (.func 145) #[] #[.pointer (some ⟨w.heap.size, 0, none⟩)]) /\ w' = w.alloc (.cells #[.slice a len cap] 56) := by
 refine callsIn_of_wp Tryz.func123 rfl h6 ?_ hro
 simp only [Tryz.ntmps123, List.size_toArray, List.length_cons, List.length_nil, Nat.reduceAdd, Nat.reduceSub, Array.replicate_succ, Array.replicate_zero, List.push_toArray, List.append_toArray, List.nil_append, List.cons_append]
 gi_wp2
 go_ret
 exact ⟨rfl, rfl⟩
end Go.Proofs.YtobenjkacpipeaaGreat
namespace Go.Proofs.YtobenjkacpipeaaGreat
open Go.RowKit Pl Go.Shelf
attribute [local go_sem] Oper.semAt_some
def encR (s : List Int) (log : Int) (ds : List Int) : Int × List Int :=
 if mayS s log = false then (4, []) else if 65536 < ds.length ∨ allS s ds = false then (1, []) else (0, pack (eRow (nn s) s.length (2 ^ log.toNat) log.toNat ds ++ [1]))
def EPostF (r : Int × List Int) (w : World) (e : Ending) (w' : World) : Prop :=
 ∃ d, e = .returned (.tuple #[d, .int .i64 r.1]) /\ Below w.heap.size w w' /\ (∀ k, d.ownBlock = some k -> w.heap.size <= k) /\ Owns .u8 5 w' d r.2
theorem EPostF.bad {E : Int} {w w' : World} (hb : Below w.heap.size w w') : EPostF (E, []) w (.returned (.tuple #[.slice none 0 0, .int .i64 E])) w' :=
 ⟨_, rfl, hb, (fun k e => by cases e), zf9 _ _ _⟩
theorem zfl9 (v u : Value) (s ds : List Int) (w : World) (h1 : 1 <= s.length) (h2 : s.length <= 64) (h3 : ds.length <= 65536) (hr : Rd .i64 w v s) (hd : Rd .i64 w u ds) :
  Calls Tryz.prog 121 #[v, u] w fun e w' => e = .returned (.bool (allS s ds)) /\ w' = w := by
 obtain ⟨a, cap, rfl, _, _, _, h⟩ := hr
 obtain ⟨a2, cap2, rfl, _, _, _, k⟩ := hd
 by_cases h0 : ds.length = 0
 ·obtain rfl : ds = [] := List.eq_nil_of_length_eq_zero h0
  have e : allS s [] = true := by unfold allS; exact decide_eq_true (fun i hi => by simp at hi)
  rw [e]
  exact zgs9 _ a2 cap2 w
 ·rcases h with rfl | ⟨b, o, rfl, hc⟩
  ·simp at h1
  ·rcases k with rfl | ⟨b2, o2, rfl, hd⟩
   ·simp at h0
   ·exact zht9 b o cap b2 o2 cap2 s ds w h1 h2 h3 hc hd
set_option maxRecDepth 100000 in
theorem zql9 (sv dv : Value) (s ds : List Int) (log : Int) (w : World) (hr : Rd .i64 w sv s) (hd : Rd .i64 w dv ds) (hb : mayS s log = false ∨ 65536 < ds.length ∨ allS s ds = false) :
  Calls Tryz.prog 92 #[sv, .int .i64 log, dv] w fun e w' => EPostF (encR s log ds) w e w' := by
 have HR : Hid (Rd .i64 w sv s) := hr
 have HD : Hid (Rd .i64 w dv ds) := hd
 obtain ⟨sa, sc, hsv⟩ : ∃ a c, sv = .slice a s.length c := by obtain ⟨a, c, e, _⟩ := hr; exact ⟨a, c, e⟩
 obtain ⟨da, dc, hdv⟩ : ∃ a c, dv = .slice a ds.length c := by obtain ⟨a, c, e, _⟩ := hd; exact ⟨a, c, e⟩
 subst hsv hdv
 clear hr hd
 have HB : Hid (Below w.heap.size w (w.alloc (.cells #[.slice sa s.length sc] 56))) := (Below.refl _ _).alloc (Nat.le_refl _) _
 obtain ⟨R, hR⟩ : ∃ R, Hid (encR s log ds = R) := ⟨_, rfl⟩
 rw [hR.out]
 cases hm : mayS s log with
 | false =>
  have HM : Hid (mayS s log = false) := hm
  have HE : Hid (R = (4, [])) := by show R = _; rw [<- hR.out]; unfold encR; rw [if_pos hm]
  clear hm hb
  go_enter Tryz.func92, Tryz.ntmps92
  go_wp2_with fail
  refine (zau9 _ s log _ (HR.out.below HB.out)).mono ?_
  rintro e w1 ⟨rfl, rfl⟩
  rw [HM.out]
  go_wp2_with fail
  go_ret2
  rw [HE.out]
  exact EPostF.bad HB.out
 | true =>
  have HM : Hid (mayS s log = true) := hm
  obtain ⟨lg, rfl, hk⟩ := Sok.of hm
  have HK : Hid (Sok s lg) := hk
  have hmf : ¬ mayS s lg = false := by rw [hm]; simp
  have hb2 : 65536 < ds.length ∨ allS s ds = false := by rcases hb with h | h; (· rw [hm] at h; cases h); (· exact h)
  have HE : Hid (R = (1, [])) := by show R = _; rw [<- hR.out]; unfold encR; rw [if_neg hmf, if_pos hb2]
  clear hm hk hmf hb
  by_cases hn : 65536 < ds.length
  ·have hn' : (65536 : Int) < (ds.length : Int) := by omega
   clear hb2
   go_enter Tryz.func92, Tryz.ntmps92
   go_wp2_with fail
   refine (zau9 _ s lg _ (HR.out.below HB.out)).mono ?_
   rintro e w1 ⟨rfl, rfl⟩
   rw [HM.out]
   go_wp2_with fail
   go_ret2
   rw [HE.out]
   exact EPostF.bad HB.out
  ·have HA : Hid (allS s ds = false) := by rcases hb2 with h | h; (· omega); (· exact h)
   have hn' : decide ((65536 : Int) < (ds.length : Int)) = false := by rw [decide_eq_false_iff_not]; omega
   clear hb2
   go_enter Tryz.func92, Tryz.ntmps92
   go_wp2_with fail
   refine (zau9 _ s lg _ (HR.out.below HB.out)).mono ?_
   rintro e w1 ⟨rfl, rfl⟩
   rw [HM.out]
   go_wp2_with fail
   refine (zfl9 _ _ s ds _ HK.out.pos HK.out.len (by omega) (HR.out.below HB.out) (HD.out.below HB.out)).mono ?_
   rintro e w1 ⟨rfl, rfl⟩
   rw [HA.out]
   go_wp2_with fail
   go_ret2
   rw [HE.out]
   exact EPostF.bad HB.out
section
variable {P : Program} {ops : Array Oper} {Q : Exit -> Act -> World -> Prop} {md : Region.Mode} {S : World -> Prop} {l n : Nat}
theorem zsv9 {row : String} {args : Array Value} {w : World} {R : Value -> World -> Prop} (h : Rows P row args w R) : RowsIn (Fence.wide.inRound l) n P row args w R :=
 fun c cs _ => let ⟨v, w', r, s⟩ := h c cs; ⟨v, w', r, stepsIn_wide.2 s⟩
theorem zyy9 {o : Oper} {a : Act} {w : World} {K K' : Act -> World -> Prop} (hd : ∀ c, o.op ≠ .defer c) (hL : ¬ LetsOut Q) (hK : ∀ a w, K a w -> K' a w) (h : o.wp P a w K Q) : o.wpIn (Fence.wide.inRound l) n P a w K' Q := by
 unfold Oper.wpIn
 refine ⟨fun f _ => trivial, ?_⟩
 have e : o.semAt (Fence.wide.inRound l).round a.eval = execOp a.eval o := Oper.semAt_some l _ _ hd
 rw [e]
 unfold Oper.wp at h
 generalize (execOp a.eval o).run P w = r at *
 cases r with
 | ok x w' =>
  cases x with
  | value v => exact hK _ _ h
  | skip => exact hK _ _ h
  | defer d => exact hK _ _ h
  | enter f args =>
   refine ⟨(fun h' => (by cases h')), CallsIn.inRound l (callsIn_wide.2 (Calls.mono h fun e w'' he => ?_))⟩
   cases e with
   | returned v => exact hK _ _ he
   | panicked c => exact he
   | outgrown => exact absurd he hL
  | row row args => exact ⟨(fun h' => (by cases h')), zsv9 (Rows.mono h fun _ _ he => hK _ _ he)⟩
  | _ => exact (h : False).elim
 | halt x w' =>
  cases x with
  | panic v => exact h
  | _ => exact (h : False).elim
theorem zcw9 (hd : ∀ (i : Nat) (o : Oper), ops[i]? = some o -> ∀ c, o.op ≠ .defer c) (hL : ¬ LetsOut Q) : ∀ (fuel : Nat) (listed : Array Bool) (a : Act) (w : World), wpAny P md ops Q fuel listed a w -> wpAnyIn (Fence.wide.inRound l) n P md ops Q fuel listed a w
 | 0, _, _, _, h => h
 | fuel + 1, listed, a, w, h => by
  refine ⟨h.1, fun i hi => ?_⟩
  have h1 := h.2 i hi
  unfold wpOp at h1
  unfold wpOpIn
  cases ho : ops[i]? with
  | none => rw [ho] at h1; exact zcw9 hd hL fuel _ _ _ h1
  | some o =>
   rw [ho] at h1
   simp only at h1 ⊢
   split
   ·rename_i hw
    rw [if_pos hw] at h1
    rcases h1 with h1 | h1
    ·exact zyy9 (hd i o ho) hL (fun a' w' h' => zcw9 hd hL fuel _ a' w' h') h1
    ·exact absurd h1.2 hL
   ·rename_i hw
    rw [if_neg hw] at h1
    exact ⟨fun f _ => trivial, zcw9 hd hL fuel _ _ _ h1⟩
theorem zej9 {id : Nat} {a : Act} {w : World} (hm : P.follows .mixedOrders = true) (hd : ∀ (i : Nat) (o : Oper), ops[i]? = some o -> ∀ c, o.op ≠ .defer c) (hL : ¬ LetsOut Q) (hS : S w.drew)
  (h : wpAnyH P .any ops Q S ops.size (Array.replicate ops.size false) a w.drew) : (Code.region id ops true).wpIn (Fence.wide.inRound l) n P Q a w :=
 wpIn_region_any hm (zcw9 hd hL _ _ _ _ (wpAny_of_held _ _ _ _ h))
end
theorem zuv9 {ops : Array Oper} (h : (ops.all fun o => match o.op with | .defer _ => false | _ => true) = true) : ∀ (i : Nat) (o : Oper), ops[i]? = some o -> ∀ c, o.op ≠ .defer c := fun i o ho c e => by
 have h1 := Array.all_eq_true_iff_forall_mem.1 h o (Array.mem_of_getElem? ho)
 rw [e] at h1
 cases h1
set_option maxRecDepth 100000 in
theorem reg12 (l m : Nat) (u0 u1 u2 u3 u4 u5 u6 u7 u8 u9 u10 u11 u12 u13 u14 u15 u16 u17 u18 u19 u20 u21 u22 u23 u24 u25 u26 u27 u28 u29 u30 u31 u32 u33 u34 u35 u36 u37 u38 u39 u40 u41 u42 u43 u44 u45 u46 u47 u48 u49 u50 u51 u52 u53 u54 u55 u56 u57 u58 u59 u60 u61 u62 u63 u64 u65 u66 u67 u68 u69 u70 u71 u72 : Value) (B10 B11 b n σ T r : Nat) (W : World) (Q : Exit -> Act -> World -> Prop) (hL : ¬ LetsOut Q) (hQ : ∀ c a w, ¬ Q (.panic c) a w)
  (hn : n <= 10) (hT : IntKind.i64.wrap (2 ^ n) = (T : Int)) (hT1 : IntKind.i64.wrap ((T : Int) - 1) = (T : Int) - 1) (hr : Go.bits BinOp.and IntKind.i64 (σ : Int) ((T : Int) - 1) = (r : Int))
  (c10 : W.cell? ⟨B10, 0, none⟩ = some (.pointer (some ⟨b, 0, none⟩))) (c11 : W.cell? ⟨B11, 0, none⟩ = some (.int .i64 (σ : Int)))
  (hp : Calls Tryz.prog 95 #[.pointer (some ⟨b, 0, none⟩), .int .i64 (n : Int), .int .i64 (r : Int)] W.drew fun e W2 => e = .returned (.int .i64 0) /\ (W2.cell? ⟨B10, 0, none⟩ = some (.pointer (some ⟨b, 0, none⟩)) /\ W2.cell? ⟨B11, 0, none⟩ = some (.int .i64 (σ : Int))) /\ Q .normal { tmps := #[u0, u1, u2, u3, u4, u5, u6, u7, u8, u9, Value.pointer (some ⟨B10, 0, none⟩), Value.pointer (some ⟨B11, 0, none⟩), u12, u13, Value.int .i64 (n : Int), u15, u16, u17, u18, u19, u20, u21, u22, u23, u24, u25, u26, u27, u28, u29, u30, u31, u32, u33, u34, u35, u36, u37, u38, u39, u40, u41, u42, u43, u44, Value.pointer (some ⟨b, 0, none⟩), Value.int .i64 (n : Int), Value.int .i64 (σ : Int), Value.int .i64 (n : Int), Value.int .i64 (T : Int), Value.int .i64 ((T : Int) - 1), Value.int .i64 (r : Int), Value.int .i64 0, u53, u54, u55, u56, u57, u58, u59, u60, u61, u62, u63, u64, u65, u66, u67, u68, u69, u70, u71, u72], defers := [] } W2) :
  (Code.region 12 #[{ dst := some 45, op := Op.load 114 (Operand.tmp 10), type := 114, pos := "fse.go:93", after := #[], guard := none }, { dst := some 46, op := Op.move (Operand.tmp 14), type := 3, pos := "fse.go:93", after := #[], guard := none }, { dst := some 47, op := Op.load 3 (Operand.tmp 11), type := 3, pos := "fse.go:93", after := #[], guard := none }, { dst := some 48, op := Op.move (Operand.tmp 14), type := 3, pos := "fse.go:93", after := #[], guard := none }, { dst := some 49, op := Op.binOp BinOp.shl 3 (Operand.const (Value.int IntKind.i64 1)) (Operand.tmp 48) 3, type := 3, pos := "fse.go:93", after := #[{ on := 3, ground := Ground.data }], guard := none }, { dst := some 50, op := Op.binOp BinOp.sub 3 (Operand.tmp 49) (Operand.const (Value.int IntKind.i64 1)) 3, type := 3, pos := "fse.go:93", after := #[{ on := 4, ground := Ground.data }], guard := none }, { dst := some 51, op := Op.binOp BinOp.and 3 (Operand.tmp 47) (Operand.tmp 50) 3, type := 3, pos := "fse.go:93", after := #[{ on := 2, ground := Ground.data }, { on := 5, ground := Ground.data }], guard := none }, { dst := some 52, op := Op.call { callee := Callee.value (Operand.func 95), args := #[Operand.tmp 45, Operand.tmp 46, Operand.tmp 51], argTypes := #[114, 3, 3] }, type := 23, pos := "fse.go:93", after := #[{ on := 0, ground := Ground.data }, { on := 1, ground := Ground.data }, { on := 6, ground := Ground.data }], guard := none }] true).wpIn (Fence.wide.inRound l) m Tryz.prog Q { tmps := #[u0, u1, u2, u3, u4, u5, u6, u7, u8, u9, Value.pointer (some ⟨B10, 0, none⟩), Value.pointer (some ⟨B11, 0, none⟩), u12, u13, Value.int .i64 (n : Int), u15, u16, u17, u18, u19, u20, u21, u22, u23, u24, u25, u26, u27, u28, u29, u30, u31, u32, u33, u34, u35, u36, u37, u38, u39, u40, u41, u42, u43, u44, u45, u46, u47, u48, u49, u50, u51, u52, u53, u54, u55, u56, u57, u58, u59, u60, u61, u62, u63, u64, u65, u66, u67, u68, u69, u70, u71, u72], defers := [] } W := by
 have hm : Tryz.prog.follows .mixedOrders = true := by kernel_rfl
 have hq : ∀ (dst : Option Tmp) (v : Value) c a w, Q (.panic c) (a.put dst v) w -> Q (.panic c) a w := fun dst v c a w h => absurd h (hQ c _ w)
 have HP : Hid (Calls Tryz.prog 95 #[.pointer (some ⟨b, 0, none⟩), .int .i64 (n : Int), .int .i64 (r : Int)] W.drew fun e W2 => e = .returned (.int .i64 0) /\ (W2.cell? ⟨B10, 0, none⟩ = some (.pointer (some ⟨b, 0, none⟩)) /\ W2.cell? ⟨B11, 0, none⟩ = some (.int .i64 (σ : Int))) /\ Q .normal { tmps := #[u0, u1, u2, u3, u4, u5, u6, u7, u8, u9, Value.pointer (some ⟨B10, 0, none⟩), Value.pointer (some ⟨B11, 0, none⟩), u12, u13, Value.int .i64 (n : Int), u15, u16, u17, u18, u19, u20, u21, u22, u23, u24, u25, u26, u27, u28, u29, u30, u31, u32, u33, u34, u35, u36, u37, u38, u39, u40, u41, u42, u43, u44, Value.pointer (some ⟨b, 0, none⟩), Value.int .i64 (n : Int), Value.int .i64 (σ : Int), Value.int .i64 (n : Int), Value.int .i64 (T : Int), Value.int .i64 ((T : Int) - 1), Value.int .i64 (r : Int), Value.int .i64 0, u53, u54, u55, u56, u57, u58, u59, u60, u61, u62, u63, u64, u65, u66, u67, u68, u69, u70, u71, u72], defers := [] } W2) := hp
 have HT : Hid (IntKind.i64.wrap (2 ^ n) = (T : Int)) := hT
 have HT1 : Hid (IntKind.i64.wrap ((T : Int) - 1) = (T : Int) - 1) := hT1
 have HRR : Hid (Go.bits BinOp.and IntKind.i64 (σ : Int) ((T : Int) - 1) = (r : Int)) := hr
 have HN : Hid (min n 64 = n) := by show _ = _; omega
 clear hp hT hT1 hr
 refine zej9 (S := (fun w' : World => w'.cell? ⟨B10, 0, none⟩ = some (.pointer (some ⟨b, 0, none⟩)) /\ w'.cell? ⟨B11, 0, none⟩ = some (.int .i64 (σ : Int)))) hm (zuv9 (by kernel_rfl)) hL ⟨c10, c11⟩ ?_
 refine wpAnyH_take (i := 0) (oi := { dst := some 45, op := Op.load 114 (Operand.tmp 10), type := 114, pos := "fse.go:93", after := #[], guard := none }) (v := Value.pointer (some ⟨b, 0, none⟩)) rfl (by kernel_rfl) (by kernel_rfl) (by kernel_rfl) (hq _ _) (Or.inl ⟨by rfl, ?_⟩) ⟨c10, c11⟩ ?_
 ·rintro w' ⟨h1, h2⟩
  go_simp
 try simp only [Act.put, List.setIfInBounds_toArray, List.set_cons_zero, List.set_cons_succ]
 refine wpAnyH_take (i := 1) (oi := { dst := some 46, op := Op.move (Operand.tmp 14), type := 3, pos := "fse.go:93", after := #[], guard := none }) (v := Value.int .i64 (n : Int)) rfl (by kernel_rfl) (by kernel_rfl) (by kernel_rfl) (hq _ _) (Or.inl ⟨by rfl, ?_⟩) ⟨c10, c11⟩ ?_
 ·rintro w' ⟨h1, h2⟩
  go_simp
 try simp only [Act.put, List.setIfInBounds_toArray, List.set_cons_zero, List.set_cons_succ]
 refine wpAnyH_take (i := 2) (oi := { dst := some 47, op := Op.load 3 (Operand.tmp 11), type := 3, pos := "fse.go:93", after := #[], guard := none }) (v := Value.int .i64 (σ : Int)) rfl (by kernel_rfl) (by kernel_rfl) (by kernel_rfl) (hq _ _) (Or.inl ⟨by rfl, ?_⟩) ⟨c10, c11⟩ ?_
 ·rintro w' ⟨h1, h2⟩
  go_simp
 try simp only [Act.put, List.setIfInBounds_toArray, List.set_cons_zero, List.set_cons_succ]
 refine wpAnyH_take (i := 3) (oi := { dst := some 48, op := Op.move (Operand.tmp 14), type := 3, pos := "fse.go:93", after := #[], guard := none }) (v := Value.int .i64 (n : Int)) rfl (by kernel_rfl) (by kernel_rfl) (by kernel_rfl) (hq _ _) (Or.inl ⟨by rfl, ?_⟩) ⟨c10, c11⟩ ?_
 ·rintro w' ⟨h1, h2⟩
  go_simp
 try simp only [Act.put, List.setIfInBounds_toArray, List.set_cons_zero, List.set_cons_succ]
 refine wpAnyH_take (i := 4) (oi := { dst := some 49, op := Op.binOp BinOp.shl 3 (Operand.const (Value.int IntKind.i64 1)) (Operand.tmp 48) 3, type := 3, pos := "fse.go:93", after := #[{ on := 3, ground := Ground.data }], guard := none }) (v := Value.int .i64 (T : Int)) rfl (by kernel_rfl) (by kernel_rfl) (by kernel_rfl) (hq _ _) (Or.inl ⟨by rfl, ?_⟩) ⟨c10, c11⟩ ?_
 ·rintro w' ⟨h1, h2⟩
  go_simp
  exact HT.out
 try simp only [Act.put, List.setIfInBounds_toArray, List.set_cons_zero, List.set_cons_succ]
 refine wpAnyH_take (i := 5) (oi := { dst := some 50, op := Op.binOp BinOp.sub 3 (Operand.tmp 49) (Operand.const (Value.int IntKind.i64 1)) 3, type := 3, pos := "fse.go:93", after := #[{ on := 4, ground := Ground.data }], guard := none }) (v := Value.int .i64 ((T : Int) - 1)) rfl (by kernel_rfl) (by kernel_rfl) (by kernel_rfl) (hq _ _) (Or.inl ⟨by rfl, ?_⟩) ⟨c10, c11⟩ ?_
 ·rintro w' ⟨h1, h2⟩
  go_simp
  exact HT1.out
 try simp only [Act.put, List.setIfInBounds_toArray, List.set_cons_zero, List.set_cons_succ]
 refine wpAnyH_take (i := 6) (oi := { dst := some 51, op := Op.binOp BinOp.and 3 (Operand.tmp 47) (Operand.tmp 50) 3, type := 3, pos := "fse.go:93", after := #[{ on := 2, ground := Ground.data }, { on := 5, ground := Ground.data }], guard := none }) (v := Value.int .i64 (r : Int)) rfl (by kernel_rfl) (by kernel_rfl) (by kernel_rfl) (hq _ _) (Or.inl ⟨by rfl, ?_⟩) ⟨c10, c11⟩ ?_
 ·rintro w' ⟨h1, h2⟩
  go_simp
  exact HRR.out
 try simp only [Act.put, List.setIfInBounds_toArray, List.set_cons_zero, List.set_cons_succ]
 refine wpAnyH_ready (rs := [7]) (by kernel_rfl) (by simp) (AllReadyH.cons (o := { dst := some 52, op := Op.call { callee := Callee.value (Operand.func 95), args := #[Operand.tmp 45, Operand.tmp 46, Operand.tmp 51], argTypes := #[114, 3, 3] }, type := 23, pos := "fse.go:93", after := #[{ on := 0, ground := Ground.data }, { on := 1, ground := Ground.data }, { on := 6, ground := Ground.data }], guard := none }) rfl ?_ AllReadyH.nil)
 intro K' hK
 rw [if_pos (by rfl)]
 go_simp
 refine HP.out.mono ?_
 rintro e W2 ⟨rfl, hS, hfin⟩
 refine hK.out _ _ hS (fun _ => wpAnyH_done (by kernel_rfl) ?_ _)
 simpa only [Act.put, List.setIfInBounds_toArray, List.set_cons_zero, List.set_cons_succ] using hfin
set_option maxRecDepth 100000 in
theorem reg13 (l m : Nat) (u0 u1 u2 u3 u4 u5 u6 u7 u8 u9 u10 u11 u12 u13 u14 u15 u16 u17 u18 u19 u20 u21 u22 u23 u24 u25 u26 u27 u28 u29 u30 u31 u32 u33 u34 u35 u36 u37 u38 u39 u40 u41 u42 u43 u44 u45 u46 u47 u48 u49 u50 u51 u52 u53 u54 u55 u56 u57 u58 u59 u60 u61 u62 u63 u64 u65 u66 u67 u68 u69 u70 u71 u72 : Value) (B3 B8 g9 B11 sb so len sc z k n σ sh X A P τ : Nat) (W : World) (Q : Exit -> Act -> World -> Prop) (hL : ¬ LetsOut Q) (hQ : ∀ c a w, ¬ Q (.panic c) a w)
  (hn : n <= 10) (hk0 : (0 : Int) <= (k : Int)) (hk1 : (k : Int) < (len : Int)) (hX : (σ : Int) / 2 ^ n = (X : Int)) (hA : IntKind.i64.wrap ((X : Int) - (sh : Int)) = (A : Int)) (hτ : IntKind.i64.wrap ((z : Int) + (P : Int)) = (τ : Int))
  (hS : W.cell? ⟨B8, 0, none⟩ = some (.int .i64 (z : Int)) /\ W.cell? ⟨B3, 0, none⟩ = some (.slice (some ⟨sb, so, none⟩) len sc) /\ W.cell? ⟨sb, so + k, none⟩ = some (.int .i64 (sh : Int))) (c11 : W.cell? ⟨B11, 0, none⟩ = some (.int .i64 (σ : Int)))
  (hp : Calls Tryz.prog 125 #[.pointer (some ⟨g9, 0, none⟩), .int .i64 (k : Int), .int .i64 (A : Int)] W.drew fun e W2 => e = .returned (.int .i64 (P : Int)) /\ ∃ j, W2 = W.drew.drewN j)
  (f11 : W.frozen? ⟨B11, 0, none⟩ = false)
  (hf : ∀ j, (((W.drewN j).setCell ⟨B11, 0, none⟩ (.int .i64 (τ : Int))).cell? ⟨B8, 0, none⟩ = some (.int .i64 (z : Int)) /\ ((W.drewN j).setCell ⟨B11, 0, none⟩ (.int .i64 (τ : Int))).cell? ⟨B3, 0, none⟩ = some (.slice (some ⟨sb, so, none⟩) len sc) /\ ((W.drewN j).setCell ⟨B11, 0, none⟩ (.int .i64 (τ : Int))).cell? ⟨sb, so + k, none⟩ = some (.int .i64 (sh : Int))) /\ Q .normal { tmps := #[u0, u1, u2, Value.pointer (some ⟨B3, 0, none⟩), u4, u5, u6, u7, Value.pointer (some ⟨B8, 0, none⟩), Value.pointer (some ⟨g9, 0, none⟩), u10, Value.pointer (some ⟨B11, 0, none⟩), u12, Value.int .i64 (k : Int), Value.int .i64 (n : Int), u15, u16, u17, u18, u19, u20, u21, u22, u23, u24, u25, u26, u27, u28, u29, u30, u31, u32, u33, u34, u35, u36, u37, u38, u39, u40, u41, u42, u43, u44, u45, u46, u47, u48, u49, u50, u51, u52, Value.int .i64 (z : Int), Value.int .i64 (k : Int), Value.int .i64 (σ : Int), Value.int .i64 (n : Int), Value.int .i64 (X : Int), Value.slice (some ⟨sb, so, none⟩) len sc, Value.int .i64 (k : Int), Value.pointer (some ⟨sb, so + k, none⟩), Value.int .i64 (sh : Int), Value.int .i64 (A : Int), Value.int .i64 (P : Int), Value.int .i64 (τ : Int), u65, u66, u67, u68, u69, u70, u71, u72], defers := [] } ((W.drewN j).setCell ⟨B11, 0, none⟩ (.int .i64 (τ : Int)))) :
  (Code.region 13 #[{ dst := some 53, op := Op.load 3 (Operand.tmp 8), type := 3, pos := "fse.go:94", after := #[], guard := none }, { dst := some 54, op := Op.move (Operand.tmp 13), type := 3, pos := "fse.go:94", after := #[], guard := none }, { dst := some 55, op := Op.load 3 (Operand.tmp 11), type := 3, pos := "fse.go:94", after := #[], guard := none }, { dst := some 56, op := Op.move (Operand.tmp 14), type := 3, pos := "fse.go:94", after := #[], guard := none }, { dst := some 57, op := Op.binOp BinOp.shr 3 (Operand.tmp 55) (Operand.tmp 56) 3, type := 3, pos := "fse.go:94", after := #[{ on := 2, ground := Ground.data }, { on := 3, ground := Ground.data }], guard := none }, { dst := some 58, op := Op.load 56 (Operand.tmp 3), type := 56, pos := "fse.go:94", after := #[], guard := none }, { dst := some 59, op := Op.move (Operand.tmp 13), type := 3, pos := "fse.go:94", after := #[], guard := none }, { dst := some 60, op := Op.indexAddr 56 (Operand.tmp 58) (Operand.tmp 59), type := 0, pos := "fse.go:94", after := #[{ on := 5, ground := Ground.data }, { on := 6, ground := Ground.data }], guard := none }, { dst := some 61, op := Op.load 3 (Operand.tmp 60), type := 3, pos := "fse.go:94", after := #[{ on := 7, ground := Ground.data }], guard := none }, { dst := some 62, op := Op.binOp BinOp.sub 3 (Operand.tmp 57) (Operand.tmp 61) 3, type := 3, pos := "fse.go:94", after := #[{ on := 4, ground := Ground.data }, { on := 8, ground := Ground.data }], guard := none }, { dst := some 63, op := Op.call { callee := Callee.value (Operand.func 125), args := #[Operand.tmp 9, Operand.tmp 54, Operand.tmp 62], argTypes := #[148, 3, 3] }, type := 3, pos := "fse.go:94", after := #[{ on := 1, ground := Ground.data }, { on := 9, ground := Ground.data }], guard := none }, { dst := some 64, op := Op.binOp BinOp.add 3 (Operand.tmp 53) (Operand.tmp 63) 3, type := 3, pos := "fse.go:94", after := #[{ on := 0, ground := Ground.data }, { on := 10, ground := Ground.data }], guard := none }, { dst := none, op := Op.store 3 (Operand.tmp 11) (Operand.tmp 64), type := 0, pos := "fse.go:94", after := #[{ on := 11, ground := Ground.data }, { on := 10, ground := Ground.chain }, { on := 0, ground := Ground.phase }, { on := 1, ground := Ground.phase }, { on := 2, ground := Ground.phase }, { on := 3, ground := Ground.phase }, { on := 4, ground := Ground.phase }, { on := 5, ground := Ground.phase }, { on := 6, ground := Ground.phase }, { on := 7, ground := Ground.phase }, { on := 8, ground := Ground.phase }, { on := 9, ground := Ground.phase }, { on := 10, ground := Ground.phase }, { on := 11, ground := Ground.phase }], guard := none }] true).wpIn (Fence.wide.inRound l) m Tryz.prog Q { tmps := #[u0, u1, u2, Value.pointer (some ⟨B3, 0, none⟩), u4, u5, u6, u7, Value.pointer (some ⟨B8, 0, none⟩), Value.pointer (some ⟨g9, 0, none⟩), u10, Value.pointer (some ⟨B11, 0, none⟩), u12, Value.int .i64 (k : Int), Value.int .i64 (n : Int), u15, u16, u17, u18, u19, u20, u21, u22, u23, u24, u25, u26, u27, u28, u29, u30, u31, u32, u33, u34, u35, u36, u37, u38, u39, u40, u41, u42, u43, u44, u45, u46, u47, u48, u49, u50, u51, u52, u53, u54, u55, u56, u57, u58, u59, u60, u61, u62, u63, u64, u65, u66, u67, u68, u69, u70, u71, u72], defers := [] } W := by
 have hm : Tryz.prog.follows .mixedOrders = true := by kernel_rfl
 have hq : ∀ (dst : Option Tmp) (v : Value) c a w, Q (.panic c) (a.put dst v) w -> Q (.panic c) a w := fun dst v c a w h => absurd h (hQ c _ w)
 have HP : Hid (Calls Tryz.prog 125 #[.pointer (some ⟨g9, 0, none⟩), .int .i64 (k : Int), .int .i64 (A : Int)] W.drew fun e W2 => e = .returned (.int .i64 (P : Int)) /\ ∃ j, W2 = W.drew.drewN j) := hp
 have HFF : Hid (∀ j, (((W.drewN j).setCell ⟨B11, 0, none⟩ (.int .i64 (τ : Int))).cell? ⟨B8, 0, none⟩ = some (.int .i64 (z : Int)) /\ ((W.drewN j).setCell ⟨B11, 0, none⟩ (.int .i64 (τ : Int))).cell? ⟨B3, 0, none⟩ = some (.slice (some ⟨sb, so, none⟩) len sc) /\ ((W.drewN j).setCell ⟨B11, 0, none⟩ (.int .i64 (τ : Int))).cell? ⟨sb, so + k, none⟩ = some (.int .i64 (sh : Int))) /\ Q .normal { tmps := #[u0, u1, u2, Value.pointer (some ⟨B3, 0, none⟩), u4, u5, u6, u7, Value.pointer (some ⟨B8, 0, none⟩), Value.pointer (some ⟨g9, 0, none⟩), u10, Value.pointer (some ⟨B11, 0, none⟩), u12, Value.int .i64 (k : Int), Value.int .i64 (n : Int), u15, u16, u17, u18, u19, u20, u21, u22, u23, u24, u25, u26, u27, u28, u29, u30, u31, u32, u33, u34, u35, u36, u37, u38, u39, u40, u41, u42, u43, u44, u45, u46, u47, u48, u49, u50, u51, u52, Value.int .i64 (z : Int), Value.int .i64 (k : Int), Value.int .i64 (σ : Int), Value.int .i64 (n : Int), Value.int .i64 (X : Int), Value.slice (some ⟨sb, so, none⟩) len sc, Value.int .i64 (k : Int), Value.pointer (some ⟨sb, so + k, none⟩), Value.int .i64 (sh : Int), Value.int .i64 (A : Int), Value.int .i64 (P : Int), Value.int .i64 (τ : Int), u65, u66, u67, u68, u69, u70, u71, u72], defers := [] } ((W.drewN j).setCell ⟨B11, 0, none⟩ (.int .i64 (τ : Int)))) := hf
 have HX : Hid ((σ : Int) / 2 ^ n = (X : Int)) := hX
 have HA : Hid (IntKind.i64.wrap ((X : Int) - (sh : Int)) = (A : Int)) := hA
 have HTT : Hid (IntKind.i64.wrap ((z : Int) + (P : Int)) = (τ : Int)) := hτ
 have HSS : Hid (W.cell? ⟨B8, 0, none⟩ = some (.int .i64 (z : Int)) /\ W.cell? ⟨B3, 0, none⟩ = some (.slice (some ⟨sb, so, none⟩) len sc) /\ W.cell? ⟨sb, so + k, none⟩ = some (.int .i64 (sh : Int))) := hS
 clear hp hX hA hτ hf hS
 refine zej9 (S := (fun w' : World => w'.cell? ⟨B8, 0, none⟩ = some (.int .i64 (z : Int)) /\ w'.cell? ⟨B3, 0, none⟩ = some (.slice (some ⟨sb, so, none⟩) len sc) /\ w'.cell? ⟨sb, so + k, none⟩ = some (.int .i64 (sh : Int)))) hm (zuv9 (by kernel_rfl)) hL HSS.out ?_
 refine wpAnyH_take (i := 0) (oi := { dst := some 53, op := Op.load 3 (Operand.tmp 8), type := 3, pos := "fse.go:94", after := #[], guard := none }) (v := Value.int .i64 (z : Int)) rfl (by kernel_rfl) (by kernel_rfl) (by kernel_rfl) (hq _ _) (Or.inl ⟨by rfl, ?_⟩) HSS.out ?_
 ·rintro w' ⟨h1, h2, h3⟩
  go_simp
 try simp only [Act.put, List.setIfInBounds_toArray, List.set_cons_zero, List.set_cons_succ]
 refine wpAnyH_take (i := 1) (oi := { dst := some 54, op := Op.move (Operand.tmp 13), type := 3, pos := "fse.go:94", after := #[], guard := none }) (v := Value.int .i64 (k : Int)) rfl (by kernel_rfl) (by kernel_rfl) (by kernel_rfl) (hq _ _) (Or.inl ⟨by rfl, ?_⟩) HSS.out ?_
 ·rintro w' ⟨h1, h2, h3⟩
  go_simp
 try simp only [Act.put, List.setIfInBounds_toArray, List.set_cons_zero, List.set_cons_succ]
 refine wpAnyH_take (i := 3) (oi := { dst := some 56, op := Op.move (Operand.tmp 14), type := 3, pos := "fse.go:94", after := #[], guard := none }) (v := Value.int .i64 (n : Int)) rfl (by kernel_rfl) (by kernel_rfl) (by kernel_rfl) (hq _ _) (Or.inl ⟨by rfl, ?_⟩) HSS.out ?_
 ·rintro w' ⟨h1, h2, h3⟩
  go_simp
 try simp only [Act.put, List.setIfInBounds_toArray, List.set_cons_zero, List.set_cons_succ]
 refine wpAnyH_take (i := 5) (oi := { dst := some 58, op := Op.load 56 (Operand.tmp 3), type := 56, pos := "fse.go:94", after := #[], guard := none }) (v := Value.slice (some ⟨sb, so, none⟩) len sc) rfl (by kernel_rfl) (by kernel_rfl) (by kernel_rfl) (hq _ _) (Or.inl ⟨by rfl, ?_⟩) HSS.out ?_
 ·rintro w' ⟨h1, h2, h3⟩
  go_simp
 try simp only [Act.put, List.setIfInBounds_toArray, List.set_cons_zero, List.set_cons_succ]
 refine wpAnyH_take (i := 6) (oi := { dst := some 59, op := Op.move (Operand.tmp 13), type := 3, pos := "fse.go:94", after := #[], guard := none }) (v := Value.int .i64 (k : Int)) rfl (by kernel_rfl) (by kernel_rfl) (by kernel_rfl) (hq _ _) (Or.inl ⟨by rfl, ?_⟩) HSS.out ?_
 ·rintro w' ⟨h1, h2, h3⟩
  go_simp
 try simp only [Act.put, List.setIfInBounds_toArray, List.set_cons_zero, List.set_cons_succ]
 refine wpAnyH_take (i := 7) (oi := { dst := some 60, op := Op.indexAddr 56 (Operand.tmp 58) (Operand.tmp 59), type := 0, pos := "fse.go:94", after := #[{ on := 5, ground := Ground.data }, { on := 6, ground := Ground.data }], guard := none }) (v := Value.pointer (some ⟨sb, so + k, none⟩)) rfl (by kernel_rfl) (by kernel_rfl) (by kernel_rfl) (hq _ _) (Or.inl ⟨by rfl, ?_⟩) HSS.out ?_
 ·rintro w' ⟨h1, h2, h3⟩
  go_simp
 try simp only [Act.put, List.setIfInBounds_toArray, List.set_cons_zero, List.set_cons_succ]
 refine wpAnyH_take (i := 8) (oi := { dst := some 61, op := Op.load 3 (Operand.tmp 60), type := 3, pos := "fse.go:94", after := #[{ on := 7, ground := Ground.data }], guard := none }) (v := Value.int .i64 (sh : Int)) rfl (by kernel_rfl) (by kernel_rfl) (by kernel_rfl) (hq _ _) (Or.inl ⟨by rfl, ?_⟩) HSS.out ?_
 ·rintro w' ⟨h1, h2, h3⟩
  go_simp
 try simp only [Act.put, List.setIfInBounds_toArray, List.set_cons_zero, List.set_cons_succ]
 refine wpAnyH_ready (rs := [2]) (by kernel_rfl) (by simp) (AllReadyH.cons (o := { dst := some 55, op := Op.load 3 (Operand.tmp 11), type := 3, pos := "fse.go:94", after := #[], guard := none }) rfl ?_ AllReadyH.nil)
 intro K' hK
 rw [if_pos (by rfl)]
 have c11' : W.drew.cell? ⟨B11, 0, none⟩ = some (.int .i64 (σ : Int)) := c11
 go_simp
 refine hK.out _ _ HSS.out (fun _ => ?_)
 clear hK
 try simp only [Act.put, List.setIfInBounds_toArray, List.set_cons_zero, List.set_cons_succ]
 refine wpAnyH_take (i := 4) (oi := { dst := some 57, op := Op.binOp BinOp.shr 3 (Operand.tmp 55) (Operand.tmp 56) 3, type := 3, pos := "fse.go:94", after := #[{ on := 2, ground := Ground.data }, { on := 3, ground := Ground.data }], guard := none }) (v := Value.int .i64 (X : Int)) rfl (by kernel_rfl) (by kernel_rfl) (by kernel_rfl) (hq _ _) (Or.inl ⟨by rfl, ?_⟩) HSS.out ?_
 ·rintro w' ⟨h1, h2, h3⟩
  go_simp
  exact HX.out
 try simp only [Act.put, List.setIfInBounds_toArray, List.set_cons_zero, List.set_cons_succ]
 refine wpAnyH_take (i := 9) (oi := { dst := some 62, op := Op.binOp BinOp.sub 3 (Operand.tmp 57) (Operand.tmp 61) 3, type := 3, pos := "fse.go:94", after := #[{ on := 4, ground := Ground.data }, { on := 8, ground := Ground.data }], guard := none }) (v := Value.int .i64 (A : Int)) rfl (by kernel_rfl) (by kernel_rfl) (by kernel_rfl) (hq _ _) (Or.inl ⟨by rfl, ?_⟩) HSS.out ?_
 ·rintro w' ⟨h1, h2, h3⟩
  go_simp
  exact HA.out
 try simp only [Act.put, List.setIfInBounds_toArray, List.set_cons_zero, List.set_cons_succ]
 refine wpAnyH_ready (rs := [10]) (by kernel_rfl) (by simp) (AllReadyH.cons (o := { dst := some 63, op := Op.call { callee := Callee.value (Operand.func 125), args := #[Operand.tmp 9, Operand.tmp 54, Operand.tmp 62], argTypes := #[148, 3, 3] }, type := 3, pos := "fse.go:94", after := #[{ on := 1, ground := Ground.data }, { on := 9, ground := Ground.data }], guard := none }) rfl ?_ AllReadyH.nil)
 intro K' hK
 rw [if_pos (by rfl)]
 go_simp
 refine HP.out.mono ?_
 rintro e W2 ⟨rfl, j, rfl⟩
 refine hK.out _ _ HSS.out (fun _ => ?_)
 clear hK
 try simp only [Act.put, List.setIfInBounds_toArray, List.set_cons_zero, List.set_cons_succ]
 refine wpAnyH_take (i := 11) (oi := { dst := some 64, op := Op.binOp BinOp.add 3 (Operand.tmp 53) (Operand.tmp 63) 3, type := 3, pos := "fse.go:94", after := #[{ on := 0, ground := Ground.data }, { on := 10, ground := Ground.data }], guard := none }) (v := Value.int .i64 (τ : Int)) rfl (by kernel_rfl) (by kernel_rfl) (by kernel_rfl) (hq _ _) (Or.inl ⟨by rfl, ?_⟩) HSS.out ?_
 ·rintro w' ⟨h1, h2, h3⟩
  go_simp
  exact HTT.out
 try simp only [Act.put, List.setIfInBounds_toArray, List.set_cons_zero, List.set_cons_succ]
 refine wpAnyH_ready (rs := [12]) (by kernel_rfl) (by simp) (AllReadyH.cons (o := { dst := none, op := Op.store 3 (Operand.tmp 11) (Operand.tmp 64), type := 0, pos := "fse.go:94", after := #[{ on := 11, ground := Ground.data }, { on := 10, ground := Ground.chain }, { on := 0, ground := Ground.phase }, { on := 1, ground := Ground.phase }, { on := 2, ground := Ground.phase }, { on := 3, ground := Ground.phase }, { on := 4, ground := Ground.phase }, { on := 5, ground := Ground.phase }, { on := 6, ground := Ground.phase }, { on := 7, ground := Ground.phase }, { on := 8, ground := Ground.phase }, { on := 9, ground := Ground.phase }, { on := 10, ground := Ground.phase }, { on := 11, ground := Ground.phase }], guard := none }) rfl ?_ AllReadyH.nil)
 intro K' hK
 rw [if_pos (by rfl)]
 have c12 : (W.drew.drewN j).cell? ⟨B11, 0, none⟩ = some (.int .i64 (σ : Int)) := c11
 have f12 : (W.drew.drewN j).frozen? ⟨B11, 0, none⟩ = false := f11
 go_simp
 refine hK.out _ _ (HFF.out (1 + j)).1 (fun _ => wpAnyH_done (by kernel_rfl) ?_ _)
 have hfin := (HFF.out (1 + j)).2
 try simp only [Act.put, List.setIfInBounds_toArray, List.set_cons_zero, List.set_cons_succ]
 exact hfin
end Go.Proofs.YtobenjkacpipeaaGreat
