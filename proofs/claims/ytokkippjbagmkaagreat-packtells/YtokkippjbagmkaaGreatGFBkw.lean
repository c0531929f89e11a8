import Derived.RangeFuncNested
import Derived.RangeFuncBound
import Derived.RangeFuncCalls
import Derived.RangeFuncLeaves
import Derived.Shelf.Abstract
import Derived.Shelf.RegionOpen
import Derived.WalkKit
import Derived.OwnWalkIn
import Derived.TacticsInMore
import Derived.LoopNIn
import Derived.LoopIn
import Derived.Test.YtokkippjbagmkaaGreatGMem
import Derived.Test.YtokkippjbagmkaaGreatProg
import Derived.Test.YtokkippjbagmkaaGreatGFCod
import Derived.Test.YtokkippjbagmkaaGreatGTakeX
import Derived.OrdersIn
import Derived.OrdersHeld
import Derived.Deep.RegionHeld
set_option maxRecDepth 100000
/-
  slices.Backward over ints: from the last to the first, for every body that keeps the slice and its box.
-/
namespace Go.Proofs.YtokkippjbagmkaaGreat
open Go.RowKit Go.Shelf
set_option linter.unusedVariables false

attribute [local go_sem] Oper.semAt_some

/-- What has come when k rounds are over. -/
def uptoB {α : Type} (g : Nat → α) (k : Nat) : List α := (List.range k).map g
theorem uptoB_succ {α : Type} (g : Nat → α) (k : Nat) : uptoB g (k + 1) = uptoB g k ++ [g k] := by simp [uptoB, List.range_succ]
theorem uptoB_length {α : Type} (g : Nat → α) (k : Nat) : (uptoB g k).length = k := by simp [uptoB]

/-- What a round keeps: all that lay below n₀, and the box at Bs. -/
def KB (n₀ Bs : Nat) (W W' : World) : Prop := Below n₀ W W' ∧ ∀ v, W.cell? ⟨Bs, 0, none⟩ = some v → W'.cell? ⟨Bs, 0, none⟩ = some v

theorem KB.t {n₀ Bs : Nat} {A B C : World} (h : KB n₀ Bs A B) (k : KB n₀ Bs B C) : KB n₀ Bs A C := ⟨h.1.trans k.1, fun v hv => k.2 v (h.2 v hv)⟩
theorem KB.b {n₀ Bs : Nat} {w : World} (hn : n₀ ≤ w.heap.size) (W : World) (l : Nat) (o o' : Obj) (hl : w.heap.size ≤ l) (h : W.heap[l]? = some o) (hc : o.isCells = false) (hw : o.isWalk = false) : KB n₀ Bs W (W.putObj l o') := by
  refine ⟨belowK_b hn W l o o' hl h hc hw, fun v hv => ?_⟩
  exact cell_kept hv (grownBy_putObj' W l o') (fun r e => by cases e; exact ⟨_, h, hc⟩)

set_option maxRecDepth 100000 in
set_option maxHeartbeats 2000000 in
theorem back1_in {α : Type} (encs : α → Array Value) (g : Nat → α) (F : Fence) (n : Nat) (h8 : F.fn 179) (hro : F.round = none) (hn : 1 ≤ n) (l Bs n₀ b off cap : Nat) (zs : List Int) (hreach : zs.length * 8 ≤ 140737488351232) (hb : b < n₀) (hg : ∀ j, j < zs.length → encs (g j) = #[.int .i64 ((zs.length - 1 - j : Nat) : Int), .int .i64 (zs[zs.length - 1 - j]?.getD 0)]) (J Jx : List α → World → Prop)
    (hY : ∀ pre x W, J pre W → pre.length < zs.length → YieldAt F (n - 1) Tryz.prog l (encs x) W fun e W' =>
      (e = .returned (.bool true) ∧ J (pre ++ [x]) W' ∧ KB n₀ Bs W W') ∨ (e = .returned (.bool false) ∧ Jx (pre ++ [x]) W'))
    (W : World) (hBs : W.cell? ⟨Bs, 0, none⟩ = some (.slice (some ⟨b, off, none⟩) zs.length cap)) (hc : ∀ j, j < zs.length → W.cell? ⟨b, off + j, none⟩ = some (.int .i64 (zs[j]?.getD 0))) (h0 : J [] W) :
    CallsIn F n Tryz.prog 179 #[.func (.yield l) #[] #[], .pointer (some ⟨Bs, 0, none⟩)] W fun e W' => (∃ v, e = .returned v) ∧
      ((∃ ys, ys = uptoB g zs.length ∧ J ys W') ∨ (∃ pre, (∃ k, k ≤ zs.length ∧ pre = uptoB g k) ∧ Jx pre W')) := by
  refine callsIn_of_wp Tryz.func179 rfl h8 ?_ hro
  simp only [Tryz.ntmps179, List.size_toArray, List.length_cons, List.length_nil, Nat.reduceAdd, Nat.reduceSub, Array.replicate_succ, Array.replicate_zero, List.push_toArray, List.append_toArray, List.nil_append, List.cons_append]
  gi_wp2
  gi_loopw [3] (fun i wr => ∃ k : Nat, k ≤ zs.length ∧ i = .int .i64 ((zs.length : Int) - 1 - k) ∧ J (uptoB g k) wr ∧ KB n₀ Bs W wr)
    (fun i _ => ((intOf i) + 1).toNat)
  case atStart => exact ⟨0, Nat.zero_le _, by simp, h0, Below.refl _ _, fun _ h => h⟩
  case round =>
    obtain ⟨k, hk, rfl, hJs, hnx⟩ := hrel
    have hbx : wr.cell? ⟨Bs, 0, none⟩ = some (.slice (some ⟨b, off, none⟩) zs.length cap) := hnx.2 _ hBs
    by_cases hlt : k < zs.length
    · obtain ⟨m, hm⟩ : ∃ m : Nat, zs.length - 1 - k = m := ⟨_, rfl⟩
      have hmI : (zs.length : Int) - 1 - k = (m : Int) := by omega
      have hml : m < zs.length := by omega
      have hcx : wr.cell? ⟨b, off + m, none⟩ = some (.int .i64 (zs[m]?.getD 0)) := (hnx.1.cell (p := ⟨b, off + m, none⟩) hb).trans (hc m hml)
      obtain ⟨fn, tmps, assign, body, hy, hR⟩ := hY _ (g k) wr hJs (by rw [uptoB_length]; exact hlt)
      rw [hg k hlt, hm] at hy
      obtain ⟨y, hye⟩ : ∃ y, Hid (zs[m]?.getD 0 = y) := ⟨_, rfl⟩
      rw [hye.out] at hcx hy
      have HU : Hid (uptoB g (k + 1) = uptoB g k ++ [g k]) := uptoB_succ g k
      rw [hmI]
      have HM : Hid (zs.length - 1 - k = m) := hm
      clear hm
      have HMI : Hid ((zs.length : Int) - 1 - ((k + 1 : Nat) : Int) = (m : Int) - 1) := by show _ = _; omega
      clear hmI
      gi_wp2
      refine hR.mono ?_
      rintro e W3 (⟨rfl, hJ3, hk3⟩ | ⟨rfl, hJx3⟩)
      · gi_wp2
        go_roundw
        case rel => exact ⟨k + 1, by omega, by rw [HMI.out], by rw [HU.out]; exact hJ3, hnx.t hk3⟩
        case measure => simp [intOf]
      · gi_wp2
        refine bodyPost_ret (results_none rfl _ _ _) rfl ?_
        exact ⟨⟨_, rfl⟩, .inr ⟨_, ⟨k + 1, by omega, HU.out.symm⟩, hJx3⟩⟩
    · obtain rfl : k = zs.length := by omega
      have e1 : (zs.length : Int) - 1 - (zs.length : Int) = -1 := by omega
      rw [e1]
      gi_wp2
      go_end0
      exact ⟨⟨_, rfl⟩, .inl ⟨_, rfl, hJs⟩⟩

set_option maxRecDepth 100000 in
set_option maxHeartbeats 1000000 in
/-- .. where there are none: no round. -/
theorem back1_nil_in {α : Type} (F : Fence) (n : Nat) (h8 : F.fn 179) (hro : F.round = none) (l Bs cap : Nat) (a : Option Addr) (J : List α → World → Prop) (W : World) (hBs : W.cell? ⟨Bs, 0, none⟩ = some (.slice a 0 cap)) (h0 : J [] W) :
    CallsIn F n Tryz.prog 179 #[.func (.yield l) #[] #[], .pointer (some ⟨Bs, 0, none⟩)] W fun e W' => (∃ v, e = .returned v) ∧ J [] W' := by
  refine callsIn_of_wp Tryz.func179 rfl h8 ?_ hro
  simp only [Tryz.ntmps179, List.size_toArray, List.length_cons, List.length_nil, Nat.reduceAdd, Nat.reduceSub, Array.replicate_succ, Array.replicate_zero, List.push_toArray, List.append_toArray, List.nil_append, List.cons_append]
  gi_wp2
  gi_loopw [3] (fun i wr => i = .int .i64 (-1) ∧ J [] wr) (fun _ _ => 0)
  case atStart => exact ⟨rfl, h0⟩
  case round =>
    obtain ⟨rfl, hJs⟩ := hrel
    gi_wp2
    go_end0
    exact ⟨⟨_, rfl⟩, hJs⟩

/-- slices.Backward's value keeps its contract. -/
theorem back_stops {α : Type} (encs : α → Array Value) (g : Nat → α) (F : Fence) (n : Nat) (h8 : F.fn 179) (hro : F.round = none) (hn : 1 ≤ n) (Bs n₀ : Nat) (a : Option Addr) (cap : Nat) (zs : List Int) (hreach : zs.length * 8 ≤ 140737488351232) (w : World) (hBs : Bs < w.heap.size) (hn₀ : n₀ ≤ w.heap.size)
    (hc : w.cell? ⟨Bs, 0, none⟩ = some (.slice a zs.length cap)) (hI : zs = [] ∨ ∃ b off, a = some ⟨b, off, none⟩ ∧ b < n₀ ∧ ∀ j, j < zs.length → w.cell? ⟨b, off + j, none⟩ = some (.int .i64 (zs.getD j 0)))
    (hg : ∀ j, j < zs.length → encs (g j) = #[.int .i64 ((zs.length - 1 - j : Nat) : Int), .int .i64 (zs[zs.length - 1 - j]?.getD 0)]) :
    SeqStopsK F n Tryz.prog 179 #[.pointer (some ⟨Bs, 0, none⟩)] encs (KB n₀ Bs) (fun ys => ys = uptoB g zs.length)
      (fun pre => ∃ k, k ≤ zs.length ∧ pre = uptoB g k) zs.length w := fun l J Jx W hW _ _ hY h0 => by
  have hc' := (hW.cell (p := ⟨Bs, 0, none⟩) hBs).trans hc
  rcases hI with rfl | ⟨b, off, rfl, hb, hcs⟩
  · exact (back1_nil_in F n h8 hro l Bs cap a J W hc' h0).mono fun e W' ⟨he, hj⟩ => ⟨he, .inl ⟨_, rfl, hj⟩⟩
  · refine back1_in encs g F n h8 hro hn l Bs n₀ b off cap zs hreach hb hg J Jx hY W hc' (fun j hj => ?_) h0
    rw [(hW.mono hn₀).cell (p := ⟨b, off + j, none⟩) hb, hcs j hj, List.getD_eq_getElem?_getD]

set_option maxHeartbeats 1000000 in
/-- slices.Backward(s): the slice value is boxed; the function value captures the box. -/
theorem back_in (F : Fence) (n : Nat) (h6 : F.fn 154) (hro : F.round = none) (a : Option Addr) (len cap : Nat) (w : World) :
    CallsIn F n Tryz.prog 154 #[.slice a len cap] w fun e w' => e = .returned (.func (.func 179) #[] #[.pointer (some ⟨w.heap.size, 0, none⟩)]) ∧ w' = w.alloc (.cells #[.slice a len cap] 73) := by
  refine callsIn_of_wp Tryz.func154 rfl h6 ?_ hro
  simp only [Tryz.ntmps154, List.size_toArray, List.length_cons, List.length_nil, Nat.reduceAdd, Nat.reduceSub, Array.replicate_succ, Array.replicate_zero, List.push_toArray, List.append_toArray, List.nil_append, List.cons_append]
  gi_wp2
  go_ret
  exact ⟨rfl, rfl⟩
end Go.Proofs.YtokkippjbagmkaaGreat

/-
  What Encode answers.
-/
namespace Go.Proofs.YtokkippjbagmkaaGreat
open Go.RowKit Pl Go.Shelf
set_option linter.unusedVariables false

attribute [local go_sem] Oper.semAt_some

/-- Encode's word and bytes. -/
def encR (s : List Int) (log : Int) (ds : List Int) : Int × List Int :=
  if mayS s log = false then (4, []) else if 65536 < ds.length ∨ allS s ds = false then (1, []) else (0, pack (eRow (nn s) s.length (2 ^ log.toNat) log.toNat ds ++ [1]))

def EPostF (r : Int × List Int) (w : World) (e : Ending) (w' : World) : Prop :=
  ∃ d, e = .returned (.tuple #[d, .int .i64 r.1]) ∧ Below w.heap.size w w' ∧ (∀ k, d.ownBlock = some k → w.heap.size ≤ k) ∧ Owns .u8 5 w' d r.2

theorem EPostF.bad {E : Int} {w w' : World} (hb : Below w.heap.size w w') : EPostF (E, []) w (.returned (.tuple #[.slice none 0 0, .int .i64 E])) w' :=
  ⟨_, rfl, hb, (fun k e => by cases e), owns_nil _ _ _⟩

theorem allShared_rd (v u : Value) (s ds : List Int) (w : World) (h1 : 1 ≤ s.length) (h2 : s.length ≤ 64) (h3 : ds.length ≤ 65536) (hr : Rd .i64 w v s) (hd : Rd .i64 w u ds) :
    Calls Tryz.prog 152 #[v, u] w fun e w' => e = .returned (.bool (allS s ds)) ∧ w' = w := by
  obtain ⟨a, cap, rfl, _, _, _, h⟩ := hr
  obtain ⟨a2, cap2, rfl, _, _, _, k⟩ := hd
  by_cases h0 : ds.length = 0
  · obtain rfl : ds = [] := List.eq_nil_of_length_eq_zero h0
    have e : allS s [] = true := by unfold allS; exact decide_eq_true (fun i hi => by simp at hi)
    rw [e]
    exact allShared_none _ a2 cap2 w
  · rcases h with rfl | ⟨b, o, rfl, hc⟩
    · simp at h1
    · rcases k with rfl | ⟨b2, o2, rfl, hd⟩
      · simp at h0
      · exact allShared_any b o cap b2 o2 cap2 s ds w h1 h2 h3 hc hd

set_option maxRecDepth 100000 in
set_option maxHeartbeats 4000000 in
theorem encode_bad (sv dv : Value) (s ds : List Int) (log : Int) (w : World) (hr : Rd .i64 w sv s) (hd : Rd .i64 w dv ds) (hb : mayS s log = false ∨ 65536 < ds.length ∨ allS s ds = false) :
    Calls Tryz.prog 122 #[sv, .int .i64 log, dv] w fun e w' => EPostF (encR s log ds) w e w' := by
  have HR : Hid (Rd .i64 w sv s) := hr
  have HD : Hid (Rd .i64 w dv ds) := hd
  obtain ⟨sa, sc, hsv⟩ : ∃ a c, sv = .slice a s.length c := by obtain ⟨a, c, e, _⟩ := hr; exact ⟨a, c, e⟩
  obtain ⟨da, dc, hdv⟩ : ∃ a c, dv = .slice a ds.length c := by obtain ⟨a, c, e, _⟩ := hd; exact ⟨a, c, e⟩
  subst hsv hdv
  clear hr hd
  have HB : Hid (Below w.heap.size w (w.alloc (.cells #[.slice sa s.length sc] 73))) := (Below.refl _ _).alloc (Nat.le_refl _) _
  obtain ⟨R, hR⟩ : ∃ R, Hid (encR s log ds = R) := ⟨_, rfl⟩
  rw [hR.out]
  cases hm : mayS s log with
  | false =>
    have HM : Hid (mayS s log = false) := hm
    have HE : Hid (R = (4, [])) := by show R = _; rw [← hR.out]; unfold encR; rw [if_pos hm]
    clear hm hb
    go_enter Tryz.func122, Tryz.ntmps122
    go_wp2_with fail
    refine (maybe_rdF _ s log _ (HR.out.below HB.out)).mono ?_
    rintro e w1 ⟨rfl, rfl⟩
    rw [HM.out]
    go_wp2_with fail
    go_ret2
    rw [HE.out]
    exact EPostF.bad HB.out
  | true =>
    have HM : Hid (mayS s log = true) := hm
    obtain ⟨lg, rfl, hk⟩ := Sok.of hm
    have HK : Hid (Sok s lg) := hk
    have hmf : ¬ mayS s lg = false := by rw [hm]; simp
    have hb2 : 65536 < ds.length ∨ allS s ds = false := by rcases hb with h | h; (· rw [hm] at h; cases h); (· exact h)
    have HE : Hid (R = (1, [])) := by show R = _; rw [← hR.out]; unfold encR; rw [if_neg hmf, if_pos hb2]
    clear hm hk hmf hb
    by_cases hn : 65536 < ds.length
    · have hn' : (65536 : Int) < (ds.length : Int) := by omega
      clear hb2
      go_enter Tryz.func122, Tryz.ntmps122
      go_wp2_with fail
      refine (maybe_rdF _ s lg _ (HR.out.below HB.out)).mono ?_
      rintro e w1 ⟨rfl, rfl⟩
      rw [HM.out]
      go_wp2_with fail
      go_ret2
      rw [HE.out]
      exact EPostF.bad HB.out
    · have HA : Hid (allS s ds = false) := by rcases hb2 with h | h; (· omega); (· exact h)
      have hn' : decide ((65536 : Int) < (ds.length : Int)) = false := by rw [decide_eq_false_iff_not]; omega
      clear hb2
      go_enter Tryz.func122, Tryz.ntmps122
      go_wp2_with fail
      refine (maybe_rdF _ s lg _ (HR.out.below HB.out)).mono ?_
      rintro e w1 ⟨rfl, rfl⟩
      rw [HM.out]
      go_wp2_with fail
      refine (allShared_rd _ _ s ds _ HK.out.pos HK.out.len (by omega) (HR.out.below HB.out) (HD.out.below HB.out)).mono ?_
      rintro e w1 ⟨rfl, rfl⟩
      rw [HA.out]
      go_wp2_with fail
      go_ret2
      rw [HE.out]
      exact EPostF.bad HB.out
end Go.Proofs.YtokkippjbagmkaaGreat

/-
  A region that draws its order, within a round of a range over a function: out of the plain walk of its orders.
-/
namespace Go.Proofs.YtokkippjbagmkaaGreat
open Go.RowKit Pl Go.Shelf
set_option linter.unusedVariables false

section
variable {P : Program} {ops : Array Oper} {Q : Exit → Act → World → Prop} {md : Region.Mode} {S : World → Prop} {l n : Nat}

theorem rowsIn_of {row : String} {args : Array Value} {w : World} {R : Value → World → Prop} (h : Rows P row args w R) : RowsIn (Fence.wide.inRound l) n P row args w R :=
  fun c cs _ => let ⟨v, w', r, s⟩ := h c cs; ⟨v, w', r, stepsIn_wide.2 s⟩

theorem opIn_of {o : Oper} {a : Act} {w : World} {K K' : Act → World → Prop} (hd : ∀ c, o.op ≠ .defer c) (hL : ¬ LetsOut Q) (hK : ∀ a w, K a w → K' a w) (h : o.wp P a w K Q) : o.wpIn (Fence.wide.inRound l) n P a w K' Q := by
  unfold Oper.wpIn
  refine ⟨fun f _ => trivial, ?_⟩
  have e : o.semAt (Fence.wide.inRound l).round a.eval = execOp a.eval o := Oper.semAt_some l _ _ hd
  rw [e]
  unfold Oper.wp at h
  generalize (execOp a.eval o).run P w = r at *
  cases r with
  | ok x w' =>
    cases x with
    | value v => exact hK _ _ h
    | skip => exact hK _ _ h
    | defer d => exact hK _ _ h
    | enter f args =>
      refine ⟨(fun h' => (by cases h')), CallsIn.inRound l (callsIn_wide.2 (Calls.mono h fun e w'' he => ?_))⟩
      cases e with
      | returned v => exact hK _ _ he
      | panicked c => exact he
      | outgrown => exact absurd he hL
    | row row args => exact ⟨(fun h' => (by cases h')), rowsIn_of (Rows.mono h fun _ _ he => hK _ _ he)⟩
    | _ => exact (h : False).elim
  | halt x w' =>
    cases x with
    | panic v => exact h
    | _ => exact (h : False).elim

theorem wpAnyIn_of (hd : ∀ (i : Nat) (o : Oper), ops[i]? = some o → ∀ c, o.op ≠ .defer c) (hL : ¬ LetsOut Q) : ∀ (fuel : Nat) (listed : Array Bool) (a : Act) (w : World), wpAny P md ops Q fuel listed a w → wpAnyIn (Fence.wide.inRound l) n P md ops Q fuel listed a w
  | 0, _, _, _, h => h
  | fuel + 1, listed, a, w, h => by
    refine ⟨h.1, fun i hi => ?_⟩
    have h1 := h.2 i hi
    unfold wpOp at h1
    unfold wpOpIn
    cases ho : ops[i]? with
    | none => rw [ho] at h1; exact wpAnyIn_of hd hL fuel _ _ _ h1
    | some o =>
      rw [ho] at h1
      simp only at h1 ⊢
      split
      · rename_i hw
        rw [if_pos hw] at h1
        rcases h1 with h1 | h1
        · exact opIn_of (hd i o ho) hL (fun a' w' h' => wpAnyIn_of hd hL fuel _ a' w' h') h1
        · exact absurd h1.2 hL
      · rename_i hw
        rw [if_neg hw] at h1
        exact ⟨fun f _ => trivial, wpAnyIn_of hd hL fuel _ _ _ h1⟩

/-- The beginning. -/
theorem region_round {id : Nat} {a : Act} {w : World} (hm : P.follows .mixedOrders = true) (hd : ∀ (i : Nat) (o : Oper), ops[i]? = some o → ∀ c, o.op ≠ .defer c) (hL : ¬ LetsOut Q) (hS : S w.drew)
    (h : wpAnyH P .any ops Q S ops.size (Array.replicate ops.size false) a w.drew) : (Code.region id ops true).wpIn (Fence.wide.inRound l) n P Q a w :=
  wpIn_region_any hm (wpAnyIn_of hd hL _ _ _ _ (wpAny_of_held _ _ _ _ h))
end
end Go.Proofs.YtokkippjbagmkaaGreat
