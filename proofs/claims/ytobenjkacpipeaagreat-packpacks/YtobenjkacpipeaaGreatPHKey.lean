import Derived.Test.YtobenjkacpipeaaGreatPHCodes
import Derived.DeepKeys4
import Derived.Maps.Own
import Derived.Maps.OwnOps
import Derived.Maps.OwnSet
import Derived.Maps.Keyed
import Derived.Maps.Views
import Derived.Test.YtobenjkacpipeaaGreatPTakeX
import Derived.OwnWalk
import Derived.Test.YtobenjkacpipeaaGreatPE64
import Derived.Test.YtobenjkacpipeaaGreatPHPop
set_option maxRecDepth 100000
set_option linter.unusedVariables false
set_option linter.unusedSimpArgs false
set_option maxHeartbeats 8000000
namespace Go.Proofs.YtobenjkacpipeaaGreat
open Go.RowKit Pl Go.Maps Go.WideMaps
theorem zwf9 : laidOutB Tryz.prog = true := by kernel_rfl
theorem rowC : (136 : TypeId) < Tryz.prog.types.size := of_decide_eq_true (by kernel_rfl)
theorem wideC : (match Tryz.prog.underlying 136 with | some (.array _ _) | some (.struct _) => true | _ => false) = true := by rw [Tryz.underlying136]
theorem lawC : KeyLaw Tryz.prog 136 := deep_law_laid zwf9 (m := 2) (by omega) rowC (by kernel_rfl) wideC
theorem keyedC : Keyed Tryz.prog 136 := Keyed.of_law lawC
theorem cellsC : Tryz.prog.cellsOf 136 = 2 := by kernel_rfl
theorem cellsI : Tryz.prog.cellsOf 3 = 1 := by kernel_rfl
theorem zwy9 : Tryz.prog.keyType 136 = true := by kernel_rfl
theorem key_ex (a b : Int) (ha : (Lit.int .i64 a).wf = true) (hb : (Lit.int .i64 b).wf = true) : ∃ l, keyOf Tryz.prog 136 (.agg #[.int .i64 a, .int .i64 b]) = some l := by
 unfold keyOf
 rw [Tryz.underlying136]
 simp only [zwy9]
 have hf : (Value.agg #[.int .i64 a, .int .i64 b]).formed Tryz.prog 136 = true := by simp [Value.formed, Tryz.underlying136, cellsC]
 rw [hf]
 have hl : ∀ d, Tryz.prog.keyLits (d + 2) 136 [.int .i64 a, .int .i64 b] = some [.int .i64 a, .int .i64 b] := fun d => by
  simp [Program.keyLits, Tryz.underlying136, Tryz.underlying3, cellsC, cellsI, ha, hb]
 have h36 : 136 < Tryz.prog.types.size := rowC
 have hs : Tryz.prog.types.size + 1 = (Tryz.prog.types.size - 1) + 2 := by omega
 rw [hs, show (Value.agg #[.int .i64 a, .int .i64 b]).cells.toList = [.int .i64 a, .int .i64 b] from rfl, hl]
 exact ⟨_, rfl⟩
theorem zor9 {ls : List Int} {c d : Nat} (hc : 0 < ls.getD c 0) (hd : 0 < ls.getD d 0) (e : cd ls c = cd ls d) : c = d := by
 unfold cd at e
 rw [if_pos hc, if_pos hd] at e
 simp only [Prod.mk.injEq] at e
 obtain ⟨e1, e2⟩ := e
 obtain ⟨s, hs⟩ := Int.eq_ofNat_of_zero_le (Int.le_of_lt hc)
 have hs1 : 1 <= s := by omega
 rw [<- e1, hs, Int.toNat_natCast] at e2
 rcases Nat.lt_trichotomy c d with h | h | h
 ·have := ztv9 ls (s := s - 1) h (by rw [hs]; omega)
  omega
 ·exact h
 ·have := ztv9 ls (s := s - 1) h (by rw [<- e1, hs]; omega)
  omega
def KM (ls : List Int) (w : World) (b k : Nat) : Prop :=
 ∃ (D : DataW Unit) (n : Nat), w.ownsMap Tryz.prog 136 (plainElem Tryz.prog 5) b n D /\ n <= k /\ IsMap D ∧
  ∀ s v kl, keyOf Tryz.prog 136 (.agg #[.int .i64 s, .int .i64 v]) = some kl →
   (Maps.has D kl = true ↔ ∃ c, c < k /\ 0 < ls.getD c 0 /\ cd ls c = (s, v)) /\ ∀ c, c < k -> 0 < ls.getD c 0 -> cd ls c = (s, v) -> D.atKey kl (.lit (.int .u8 0)) = .lit (.int .u8 (c : Int))
theorem KM.start (ls : List Int) (w : World) : KM ls (w.alloc (.map #[] 0)) w.heap.size 0 :=
 ⟨.map [], 0, World.ownsMap_made w _ _ _, Nat.le_refl _, ⟨[], rfl⟩, fun s v kl _ => ⟨⟨fun h => by simp [Maps.has] at h, fun ⟨c, h, _⟩ => by omega⟩, fun c h => by omega⟩⟩
theorem KM.miss {ls : List Int} {w : World} {b k : Nat} (h : KM ls w b k) (hz : ¬ 0 < ls.getD k 0) : KM ls w b (k + 1) := by
 obtain ⟨D, n, h1, h2, h3, h4⟩ := h
 refine ⟨D, n, h1, by omega, h3, fun s v kl hk => ?_⟩
 obtain ⟨g1, g2⟩ := h4 s v kl hk
 refine ⟨g1.trans ⟨fun ⟨c, a, b⟩ => ⟨c, by omega, b⟩, fun ⟨c, a, b, d⟩ => ⟨c, ?_, b, d⟩⟩, fun c hc hp he => g2 c ?_ hp he⟩
 ·by_cases e : c = k
  ·subst e; exact absurd b hz
  ·omega
 ·by_cases e : c = k
  ·subst e; exact absurd hp hz
  ·omega
theorem KM.hit {ls : List Int} {k : Nat} {D : DataW Unit} {s v : Int} {kl : Lit} (hD : IsMap D) (hk0 : keyOf Tryz.prog 136 (.agg #[.int .i64 s, .int .i64 v]) = some kl) (hz : 0 < ls.getD k 0) (hc : cd ls k = (s, v))
  (h4 : ∀ s v kl, keyOf Tryz.prog 136 (.agg #[.int .i64 s, .int .i64 v]) = some kl -> (Maps.has D kl = true ↔ ∃ c, c < k /\ 0 < ls.getD c 0 /\ cd ls c = (s, v)) /\ ∀ c, c < k -> 0 < ls.getD c 0 -> cd ls c = (s, v) -> D.atKey kl (.lit (.int .u8 0)) = .lit (.int .u8 (c : Int))) :
  ∀ s' v' kl', keyOf Tryz.prog 136 (.agg #[.int .i64 s', .int .i64 v']) = some kl' -> (Maps.has (D.put kl (.lit (.int .u8 (k : Int)))) kl' = true ↔ ∃ c, c < k + 1 /\ 0 < ls.getD c 0 /\ cd ls c = (s', v')) ∧
   ∀ c, c < k + 1 -> 0 < ls.getD c 0 -> cd ls c = (s', v') -> (D.put kl (.lit (.int .u8 (k : Int)))).atKey kl' (.lit (.int .u8 0)) = .lit (.int .u8 (c : Int)) := by
 intro s' v' kl' hk'
 have hlit : WideAt.IsKeyLit kl := keyedC.key hk0
 by_cases e : kl' = kl
 ·subst e
  have hv := keyedC.inj hk' hk0
  simp at hv
  obtain ⟨rfl, rfl⟩ := hv
  refine ⟨⟨fun _ => ⟨k, by omega, hz, hc⟩, fun _ => has_put_same hD hlit _⟩, fun c _ hp he => ?_⟩
  have : c = k := zor9 hp hz (he.trans hc.symm)
  subst this
  exact atKey_put_same hD hlit _ _
 ·have hne : (s', v') ≠ (s, v) := fun x => e (by
   simp only [Prod.mk.injEq] at x
   obtain ⟨rfl, rfl⟩ := x
   rw [hk0] at hk'
   exact (Option.some.inj hk').symm)
  obtain ⟨g1, g2⟩ := h4 s' v' kl' hk'
  rw [has_put_other e, atKey_put_other e]
  refine ⟨g1.trans ⟨fun ⟨c, a, b⟩ => ⟨c, by omega, b⟩, fun ⟨c, a, b, d⟩ => ⟨c, ?_, b, d⟩⟩, fun c hc2 hp he => g2 c ?_ hp he⟩
  ·by_cases e2 : c = k
   ·subst e2; exact absurd (d.symm.trans hc) hne
   ·omega
  ·by_cases e2 : c = k
   ·subst e2; exact absurd (he.symm.trans hc) hne
   ·omega
theorem KM.tch {S : Nat -> Prop} {ls : List Int} {w w' : World} {b k : Nat} (h : KM ls w b k) (ht : Tch S w w') (hb : ¬ S b) : KM ls w' b k := by
 obtain ⟨D, n, h1, h2⟩ := h
 refine ⟨D, n, ?_, h2⟩
 have hlt := h1.lt
 obtain ⟨es, clock, q1, q2⟩ := h1
 exact ⟨es, clock, by rw [ht.block b hlt hb]; exact q1, q2⟩
theorem aggC (w : World) : (isAgg 136).run Tryz.prog w = .ok true w := by kernel_rfl
theorem sizeC (w : World) : (sizeOf 136).run Tryz.prog w = .ok 2 w := by kernel_rfl
theorem zwl9 (ps : List (Int × Int)) (k : Nat) (hk : k < ps.length) : (ccs ps).extract (k * 2) (k * 2 + 2) = #[.int .i64 (ps.getD k (0, 0)).1, .int .i64 (ps.getD k (0, 0)).2] := by
 have h := zcx9 ps k hk
 have hl := zaq9 ps
 apply Array.ext_getElem?
 intro i
 rw [Array.getElem?_extract]
 simp only [ccs, List.size_toArray, hl, List.getElem?_toArray]
 match i with
 | 0 => rw [if_pos (by omega), Nat.add_zero, h.1]; rfl
 | 1 => rw [if_pos (by omega), h.2]; rfl
 | i + 2 => rw [if_neg (by omega)]; simp
theorem zpv9 (CC : Array Value) (ps : List (Int × Int)) (k : Nat) (w : World) (hC : ccs ps = CC) (hl : ps.length = 256) (hk : k < 256) :
  (Instr.index 137 (.agg CC) (.int .i64 (k : Int))).run Tryz.prog w = .ok (.agg #[.int .i64 (ps.getD k (0, 0)).1, .int .i64 (ps.getD k (0, 0)).2]) w := by
 subst hC
 have hb : (0 : Int) <= (k : Int) /\ (k : Int) < ((256 : Nat) : Int) := by omega
 have hp := zwl9 ps k (by omega)
 have hu : ∀ w, (underlying 137).run Tryz.prog w = .ok (.array 256 136) w := fun w => by kernel_rfl
 unfold Instr.index
 simp only [Sem.run_bind, asIntOf, Sem.run_pure, Result.andThen_ok, hu]
 rw [if_pos hb]
 simp only [Sem.run_bind, Sem.run_pure, Result.andThen_ok, sizeC, part, aggC, Int.toNat_natCast, hp, if_true]
theorem zsb9 (lv : Value) (ls : List Int) (w : World) (hr : Rd .i64 w lv ls) (hk : LOk ls) :
  Calls Tryz.prog 148 #[lv] w fun e w' => ∃ b, e = .returned (.map (some b)) /\ KM ls w' b 256 /\ Below w.heap.size w w' /\ w.heap.size <= b := by
 have HR : Hid (Rd .i64 w lv ls) := hr
 have HK : Hid (LOk ls) := hk
 clear hr hk
 have hmk : ∀ w : World, (Instr.makeMap 185 none).run Tryz.prog w = .ok (.map (some w.heap.size)) (w.alloc (.map #[] 0)) := fun w => by kernel_rfl
 go_enter Tryz.func148, Tryz.ntmps148
 go_wp2_with fail
 have hb1 : Below w.heap.size w (w.alloc (.map #[] 0)) := (Below.refl _ _).alloc (Nat.le_refl _) _
 refine (zfr9 lv ls _ (HR.out.below hb1) HK.out).mono ?_
 rintro e w2 ⟨rfl, hb2⟩
 obtain ⟨CC, hCC⟩ : ∃ CC, Hid (ccs (cdl ls) = CC) := ⟨_, rfl⟩
 rw [hCC.out]
 have K2 : Hid (KM ls w2 w.heap.size 0) := (KM.start ls w).tch (S := fun _ => False) (Tch.of_below hb2) (fun e => e)
 have B2 : Hid (Below w.heap.size w w2) := hb1.trans (hb2.mono (by simp))
 obtain ⟨B, hB⟩ : ∃ B, Hid (w.heap.size = B) := ⟨_, rfl⟩
 rw [hB.out] at K2 ⊢
 clear hb1 hb2
 go_wp2_with fail
 go_loopw [9] (fun i wr => ∃ k : Nat, k <= 256 /\ i = .int .i64 k /\ Hid (KM ls wr B k) /\ Hid (Below w.heap.size w wr)) (fun i _ => 256 - (intOf i).toNat)
 case atStart => exact ⟨0, Nat.zero_le _, rfl, K2, B2⟩
 case round =>
  obtain ⟨k, hk, rfl, K3, B3⟩ := hrel
  clear K2 B2
  by_cases hlt : k < 256
  ·have e0 : (cdl ls).getD k (0, 0) = cd ls k := by unfold cdl; exact zaj9 _ _ k hlt
   obtain ⟨x, y, hxy⟩ : ∃ x y, cd ls k = (x, y) := ⟨_, _, rfl⟩
   have hidx : ∀ w, (Instr.index 137 (.agg CC) (.int .i64 (k : Int))).run Tryz.prog w = .ok (.agg #[.int .i64 x, .int .i64 y]) w := fun w => by
    rw [zpv9 CC (cdl ls) k w hCC.out (zbu9 ls) hlt, e0, hxy]
   have HXY : Hid (cd ls k = (x, y)) := hxy
   clear e0 hxy
   have hi0 : (0 : Int) <= (k : Int) := by omega
   have hi1 : (k : Int) < 256 := by omega
   have hi2 : (k : Int) <= 255 := by omega
   have hk8 : (k : Int) % 256 = (k : Int) := by omega
   have hw8 : IntKind.u8.wrap (k : Int) = (k : Int) := wraps_u8 _ (by omega) (by omega)
   by_cases hz : 0 < ls.getD k 0
   ·have hx : 0 < x := by have := HXY.out; unfold cd at this; rw [if_pos hz] at this; simp only [Prod.mk.injEq] at this; omega
    obtain ⟨D, n, hown, hn, hD, h4⟩ := K3.out
    obtain ⟨s, v, hs1, hs2, hv, ecd, _, _, _, _⟩ := HK.out.code hz
    have hpw := LOk.pow hs2
    have hxs : x = (s : Int) /\ y = (v : Int) := by have := HXY.out.symm.trans ecd; simpa using this
    have hwx : (Lit.int .i64 x).wf = true := by simp [Lit.wf, IntKind.min, IntKind.max, IntKind.signed, IntKind.bits]; omega
    have hwy : (Lit.int .i64 y).wf = true := by simp [Lit.wf, IntKind.min, IntKind.max, IntKind.signed, IntKind.bits]; omega
    have hwk : (Lit.int .u8 (k : Int)).wf = true := by simp [Lit.wf, IntKind.min, IntKind.max, IntKind.signed, IntKind.bits]; omega
    obtain ⟨kl, hkl⟩ := key_ex x y hwx hwy
    have HKL : Hid (keyOf Tryz.prog 136 (.agg #[.int .i64 x, .int .i64 y]) = some kl) := hkl
    have HVAL : Hid (plainElem (H := Unit) Tryz.prog 5 (.int .u8 (k : Int)) = some (.lit (.int .u8 (k : Int)), [])) := plainElem_int Tryz.underlying5 hwk
    have HOWN : Hid (wr.ownsMap Tryz.prog 136 (plainElem Tryz.prog 5) B n D) := hown
    have HST := KM.hit hD hkl hz HXY.out h4
    have HH : Hid (∀ w' : World, w'.ownsMap Tryz.prog 136 (plainElem Tryz.prog 5) B (n + 1) (D.put kl (.lit (.int .u8 (k : Int)))) -> KM ls w' B (k + 1)) := fun w' ho => ⟨_, n + 1, ho, by omega, by obtain ⟨es, rfl⟩ := hD; exact ⟨_, rfl⟩, HST⟩
    clear hs1 hs2 hv ecd hpw hxs hwx hwy hwk hkl hown hD h4 HST K3
    go_wp2_with (at_mapUpdate; refine wpList_mapUpdate_own _ rfl _ _ _ 185 rfl 136 5 keyedC Tryz.underlying185 _ B n D rfl (HOWN.out.alloc _) (by unfold maxLen; omega) _ _ kl rfl rfl HKL.out _ _ HVAL.out ?_; intro w4 ho4 hg4)
    have K4 : Hid (KM ls w4 B (k + 1)) := HH.out w4 ho4
    have B4 : Hid (Below w.heap.size w w4) := by
     have h1 : Below w.heap.size w (wr.alloc (.cells #[.int .i64 x, .int .i64 y] 136)) := B3.out.alloc B3.out.size _
     exact h1.grown hg4 h1.size (fun j e => by simp only [Option.some.injEq] at e; have := hB.out; omega)
    clear ho4 hg4 HOWN HH
    go_wp2_with fail
    go_roundw
    case rel => exact ⟨k + 1, by omega, by go_num, K4, B4⟩
    case measure => simp [intOf]; omega
   ·have hx : x = 0 := by have := HXY.out; unfold cd at this; rw [if_neg hz] at this; simp only [Prod.mk.injEq] at this; omega
    subst hx
    have K4 : Hid (KM ls (wr.alloc (.cells #[.int .i64 0, .int .i64 y] 136)) B (k + 1)) := (K3.out.miss hz).tch (S := fun _ => False) (Tch.alloc (Tch.refl _ _) _) (fun e => e)
    have B4 : Hid (Below w.heap.size w (wr.alloc (.cells #[.int .i64 0, .int .i64 y] 136))) := B3.out.alloc B3.out.size _
    clear K3 hz
    go_wp2_with fail
    go_roundw
    case rel => exact ⟨k + 1, by omega, by go_num, K4, B4⟩
    case measure => simp [intOf]; omega
  ·obtain rfl : k = 256 := by omega
   go_wp2_with fail
   go_ret
   exact ⟨B, rfl, K3.out, B3.out, by rw [hB.out]; exact Nat.le_refl _⟩
def vl (bs : List Int) (p : Nat) : Nat -> Int
 | 0 => 0
 | t + 1 => 2 * vl bs p t + bs.getD (p + t) 0
theorem vl_bd {bs : List Int} (h : Bits bs) (p t : Nat) : 0 <= vl bs p t /\ vl bs p t < 2 ^ t := by
 induction t with
 | zero => simp [vl]
 | succ t ih =>
  simp only [vl]
  have hb := h (p + t)
  have e : (2 : Int) ^ (t + 1) = 2 * 2 ^ t := by rw [Int.pow_succ, Int.mul_comm]
  omega
def Hit (ls bs : List Int) (p t c : Nat) : Prop := c < 256 /\ 0 < ls.getD c 0 /\ cd ls c = ((t : Int), vl bs p t)
theorem or_low (V b : Int) (hV : 0 <= V) (hV1 : V <= 65536) (hb : b = 0 ∨ b = 1) : Go.bits BinOp.or IntKind.i64 (2 * V) b = 2 * V + b := by
 obtain ⟨n, rfl⟩ := Int.eq_ofNat_of_zero_le hV
 obtain ⟨d, rfl, hd⟩ : ∃ d : Nat, b = (d : Int) /\ d <= 1 := by
  rcases hb with rfl | rfl
  ·exact ⟨0, rfl, by omega⟩
  ·exact ⟨1, rfl, by omega⟩
 have e : (2 * (n : Int)) = ((n * 2 ^ 1 : Nat) : Int) := by omega
 rw [e, (bits_nat .i64 62 (by decide) zi9 _ _ (by omega) (by omega)).2, Nat.or_comm, zez9 d n 1 (by omega)]
 omega
theorem tk1 (bs : List Int) (left p : Nat) : (left = 0 -> tkE left 1 = 3 /\ tkV bs left p 1 = 0 /\ tkN left 1 = 0) /\ (0 < left -> tkE left 1 = 0 /\ tkV bs left p 1 = bs.getD p 0 /\ tkN left 1 = 1) := by
 unfold tkE tkV tkN
 refine ⟨fun h => ?_, fun h => ?_⟩
 ·subst h
  rw [if_neg (by omega), if_pos (by omega), if_neg (by omega), if_pos (by omega), if_neg (by omega), if_pos (by omega)]
  exact ⟨rfl, rfl, rfl⟩
 ·rw [if_neg (by omega), if_neg (by omega), if_neg (by omega), if_neg (by omega), if_neg (by omega), if_neg (by omega)]
  refine ⟨rfl, ?_, rfl⟩
  show val bs p 1 = _
  simp [val, bv]
theorem KM.ne_blk {ls : List Int} {w : World} {b k g : Nat} {cs : Array Value} {t : TypeId} {fr : Nat × Nat} (h : KM ls w b k) (hg : w.heap[g]? = some (.cells cs t fr)) : b ≠ g := by
 intro e
 subst e
 obtain ⟨D, n, ⟨es, clock, h1, _⟩, _⟩ := h
 rw [h1] at hg
 cases hg
structure TS (ls : List Int) (w W : World) (rb : Nat) (rv : Value) (ys : List Int) (B gc p t : Nat) : Prop where
 rr : Rr W rb rv ys (p + t)
 km : KM ls W B 256
 cc : W.heap[gc]? = some (.cells #[.int .i64 (t : Int), .int .i64 (vl (unpack ys) p t)] 136 (0, 0))
 tch : Tch (fun k => k = rb) w W
 no : ∀ s, s <= t -> ¬ ∃ c, Hit ls (unpack ys) p s c
 gcn : w.heap.size <= gc
def TPost (ls : List Int) (w : World) (rb : Nat) (rv : Value) (ys : List Int) (B p : Nat) (e : Ending) (w' : World) : Prop :=
 KM ls w' B 256 /\ Tch (fun k => k = rb) w w' /\ ∃ q, Rr w' rb rv ys q /\ p <= q ∧
  ((∃ (c t : Nat), q = p + t /\ e = .returned (.tuple #[.int .u8 (c : Int), .int .i64 0]) /\ Hit ls (unpack ys) p t c) ∨
   (e = .returned (.tuple #[.int .u8 0, .int .i64 3]) /\ ∀ t, t <= 11 -> p + t <= 8 * ys.length -> ¬ ∃ c, Hit ls (unpack ys) p t c))
theorem zero8 (w : World) : (zeroValue 5).run Tryz.prog w = .ok (.int .u8 0) w := by kernel_rfl
theorem zzf9 {ls bs : List Int} {p c : Nat} : ¬ Hit ls bs p 0 c := by
 rintro ⟨_, h1, h2⟩
 unfold cd at h2
 rw [if_pos h1] at h2
 simp only [Prod.mk.injEq] at h2
 omega
theorem zjd9 (ls : List Int) (rb B : Nat) (rv : Value) (ys : List Int) (p : Nat) (w : World) (hr : Rr w rb rv ys p) (hk : KM ls w B 256) :
  Calls Tryz.prog 149 #[.pointer (some ⟨rb, 0, none⟩), .map (some B)] w fun e w' => TPost ls w rb rv ys B p e w' := by
 have HR : Hid (Rr w rb rv ys p) := hr
 have HK : Hid (KM ls w B 256) := hk
 have hrb := hr.lt
 have hle := hr.le
 have HBT : Hid (Bits (unpack ys)) := zt9 ys
 clear hr hk
 go_enter Tryz.func149, Tryz.ntmps149
 go_wp2_with fail
 obtain ⟨gc, hgc⟩ : ∃ gc, w.heap.size = gc := ⟨_, rfl⟩
 have T0 : Hid (TS ls w (w.alloc (.cells #[.int .i64 0, .int .i64 0] 136)) rb rv ys B gc p 0) := by
  have hb : Below w.heap.size w (w.alloc (.cells #[.int .i64 0, .int .i64 0] 136)) := (Below.refl _ _).alloc (Nat.le_refl _) _
  refine ⟨HR.out.below hb, HK.out.tch (S := fun _ => False) (Tch.of_below hb) (fun e => e), ?_, Tch.of_below hb, fun s hs => ?_, by omega⟩
  ·rw [<- hgc]; exact heap_alloc_new w _
  ·obtain rfl : s = 0 := by omega
   rintro ⟨c, hc⟩
   exact zzf9 hc
 rw [hgc]
 have HGC : Hid (w.heap.size = gc) := hgc
 clear hgc
 go_loopw [11] (fun i wr => ∃ t : Nat, t <= 11 /\ i = .int .i64 t /\ Hid (TS ls w wr rb rv ys B gc p t)) (fun i _ => 11 - (intOf i).toNat)
 case atStart => exact ⟨0, Nat.zero_le _, rfl, T0⟩
 case round =>
  obtain ⟨t, ht, rfl, T⟩ := hrel
  clear T0
  by_cases h11 : t < 11
  ·have hi1 : (t : Int) < 11 := by omega
   by_cases hleft : p + t < 8 * ys.length
   ·obtain ⟨hE, hV, hN⟩ := (tk1 (unpack ys) (8 * ys.length - (p + t)) (p + t)).2 (by omega)
    have HE : Hid (tkE (8 * ys.length - (p + t)) 1 = 0 /\ tkV (unpack ys) (8 * ys.length - (p + t)) (p + t) 1 = (unpack ys).getD (p + t) 0 /\ tkN (8 * ys.length - (p + t)) 1 = 1) := ⟨hE, hV, hN⟩
    clear hE hV hN
    go_wp2_with fail
    refine (zeo9 rb rv ys (p + t) 1 wr T.out.rr).mono ?_
    rintro e w2 ⟨rfl, hr2, ht2⟩
    rw [HE.out.1, HE.out.2.1]
    rw [HE.out.2.2] at hr2
    obtain ⟨bit, hbit⟩ : ∃ bit, Hid ((unpack ys).getD (p + t) 0 = bit) := ⟨_, rfl⟩
    have hb01 : bit = 0 ∨ bit = 1 := by rw [<- hbit.out]; exact HBT.out _
    rw [hbit.out]
    obtain ⟨V, hV⟩ : ∃ V, Hid (vl (unpack ys) p t = V) := ⟨_, rfl⟩
    have hVb := vl_bd HBT.out p t
    rw [hV.out] at hVb
    have hV2 : V < 2048 := by
     have : (2 : Int) ^ t <= 2 ^ 11 := zs9 (by omega)
     have e : (2 : Int) ^ 11 = 2048 := by decide
     omega
    have hgr : gc ≠ rb := by have := HGC.out; omega
    have cc2 : w2.heap[gc]? = some (.cells #[.int .i64 (t : Int), .int .i64 V] 136 (0, 0)) := by
     rw [ht2.block gc (Array.getElem?_eq_some_iff.1 T.out.cc).1 hgr, T.out.cc, hV.out]
    have c0 : w2.cell? ⟨gc, 0, none⟩ = some (.int .i64 (t : Int)) := by rw [cell_of_row w2 gc 0 _ _ (0, 0) cc2]; rfl
    have c1 : w2.cell? ⟨gc, 1, none⟩ = some (.int .i64 V) := by rw [cell_of_row w2 gc 1 _ _ (0, 0) cc2]; rfl
    have f0 : w2.frozen? ⟨gc, 0, none⟩ = false := frozen_of_row w2 gc 0 _ _ cc2
    have f1 : w2.frozen? ⟨gc, 1, none⟩ = false := frozen_of_row w2 gc 1 _ _ cc2
    have HN : Hid (vl (unpack ys) p (t + 1) = 2 * V + bit) := by show _ = _; simp only [vl]; rw [hV.out, hbit.out]
    have hor : Go.bits BinOp.or IntKind.i64 (2 * V) bit = 2 * V + bit := or_low V bit hVb.1 (by omega) hb01
    have hor2 : Go.bits BinOp.or IntKind.i64 (V * 2) bit = 2 * V + bit := by rw [Int.mul_comm V 2]; exact hor
    have hw1 : wrap64 (V * 2 ^ 1) = 2 * V := by rw [IntWalk.wrap64_in _ ⟨by omega, by omega⟩]; omega
    have hw2 : wrap64 (V * 2) = 2 * V := by rw [IntWalk.wrap64_in _ ⟨by omega, by omega⟩]; omega
    have hbb : 0 <= bit /\ bit <= 1 := by omega
    have K2 : KM ls w2 B 256 := T.out.km.tch ht2 (fun e => T.out.km.ne_blk T.out.rr.blk e)
    obtain ⟨D, n, hown, hn, hD, h4⟩ := K2
    have hwx : (Lit.int .i64 ((t : Int) + 1)).wf = true := by simp [Lit.wf, IntKind.min, IntKind.max, IntKind.signed, IntKind.bits]; omega
    have hwy : (Lit.int .i64 (2 * V + bit)).wf = true := by simp [Lit.wf, IntKind.min, IntKind.max, IntKind.signed, IntKind.bits]; omega
    obtain ⟨kl, hkl⟩ := key_ex ((t : Int) + 1) (2 * V + bit) hwx hwy
    have HKL : Hid (keyOf Tryz.prog 136 (.agg #[.int .i64 ((t : Int) + 1), .int .i64 (2 * V + bit)]) = some kl) := hkl
    obtain ⟨g1, g2⟩ := h4 _ _ kl hkl
    have HG : Hid ((Maps.has D kl = true ↔ ∃ c, c < 256 /\ 0 < ls.getD c 0 /\ cd ls c = ((t : Int) + 1, 2 * V + bit)) /\ ∀ c, c < 256 -> 0 < ls.getD c 0 -> cd ls c = ((t : Int) + 1, 2 * V + bit) -> D.atKey kl (.lit (.int .u8 0)) = .lit (.int .u8 (c : Int))) := ⟨g1, g2⟩
    have T2 : Tch (fun k => k = gc) w2 ((w2.setCell ⟨gc, 0, none⟩ (.int .i64 ((t : Int) + 1))).setCell ⟨gc, 1, none⟩ (.int .i64 (2 * V + bit))) := Tch.setCell (Tch.setCell (Tch.refl (fun k => k = gc) w2) (p := ⟨gc, 0, none⟩) (fun _ => rfl) _) (p := ⟨gc, 1, none⟩) (fun _ => rfl) _
    have HOWN : Hid (((w2.setCell ⟨gc, 0, none⟩ (.int .i64 ((t : Int) + 1))).setCell ⟨gc, 1, none⟩ (.int .i64 (2 * V + bit))).ownsMap Tryz.prog 136 (plainElem Tryz.prog 5) B n D) := by
     have hlt := hown.lt
     obtain ⟨es, clock, q1, q2⟩ := hown
     refine ⟨es, clock, ?_, q2⟩
     rw [T2.block B hlt (fun e => by rw [e, cc2] at q1; cases q1)]
     exact q1
    have HP : Hid (KM ls ((w2.setCell ⟨gc, 0, none⟩ (.int .i64 ((t : Int) + 1))).setCell ⟨gc, 1, none⟩ (.int .i64 (2 * V + bit))) B 256 /\ Tch (fun k => k = rb) w ((w2.setCell ⟨gc, 0, none⟩ (.int .i64 ((t : Int) + 1))).setCell ⟨gc, 1, none⟩ (.int .i64 (2 * V + bit))) /\ Rr ((w2.setCell ⟨gc, 0, none⟩ (.int .i64 ((t : Int) + 1))).setCell ⟨gc, 1, none⟩ (.int .i64 (2 * V + bit))) rb rv ys (p + (t + 1)) ∧
      ((w2.setCell ⟨gc, 0, none⟩ (.int .i64 ((t : Int) + 1))).setCell ⟨gc, 1, none⟩ (.int .i64 (2 * V + bit))).heap[gc]? = some (.cells #[.int .i64 ((t + 1 : Nat) : Int), .int .i64 (vl (unpack ys) p (t + 1))] 136 (0, 0))) := by
     refine ⟨⟨D, n, HOWN.out, hn, hD, h4⟩, ?_, ?_, ?_⟩
     ·exact (T.out.tch.trans ht2 (fun _ _ e => e)).trans T2 (fun i hi e => by have := HGC.out; omega)
     ·rw [show p + (t + 1) = p + t + 1 by omega]
      exact hr2.tch T2 (fun e => hgr e.symm) (fun k hk e => by
       obtain ⟨cur, hcur⟩ : ∃ cur, w2.heap[k]? = some (.cells cur 5 (0, 0)) := by
        rcases hr2.own.2 with ⟨rfl, _⟩ | ⟨g, cap, cur, rfl, _, hg, _⟩
        ·cases hk
        ·simp only [Value.ownBlock, Option.some.injEq] at hk; subst hk; exact ⟨cur, hg⟩
       rw [e, cc2] at hcur
       simp at hcur)
     ·have q1 := heap_setCell_same w2 gc 0 _ _ (.int .i64 ((t : Int) + 1)) cc2
      have q2 := heap_setCell_same _ gc 1 _ _ (.int .i64 (2 * V + bit)) q1
      rw [q2, HN.out]
      simp
    have HNO := T.out.no
    have HNo : Hid (∀ s, s <= t -> ¬ ∃ c, Hit ls (unpack ys) p s c) := HNO
    clear hkl g1 g2 h4 hown hD hn T2 hr2 ht2 HNO T cc2 hwx hwy
    by_cases hhit : ∃ c, Hit ls (unpack ys) p (t + 1) c
    ·obtain ⟨c, hc⟩ := hhit
     have hc2 : cd ls c = ((t : Int) + 1, 2 * V + bit) := by rw [hc.2.2, HN.out]; simp
     have hhas : Maps.has D kl = true := HG.out.1.2 ⟨c, hc.1, hc.2.1, hc2⟩
     have HAT : Hid (D.atKey kl (.lit (.int .u8 0)) = .lit (.int .u8 (c : Int))) := HG.out.2 c hc.1 hc.2.1 hc2
     have HC : Hid (Hit ls (unpack ys) p (t + 1) c) := hc
     clear hc hc2
     go_wp2_with (at_lookup; refine wpList_lookup_own_ok_int _ rfl _ _ 185 rfl 136 5 .u8 keyedC Tryz.underlying185 Tryz.underlying5 (zero8 _) B n D rfl HOWN.out _ kl rfl HKL.out ?_; intro c' hat hwc)
     have ec : c' = (c : Int) := by rw [HAT.out] at hat; simp at hat; exact hat.symm
     subst ec
     clear hat hwc
     go_wp2_with fail
     go_ret2
     exact ⟨HP.out.1, HP.out.2.1, p + (t + 1), HP.out.2.2.1, by omega, .inl ⟨c, t + 1, rfl, rfl, HC.out⟩⟩
    ·have hhas : Maps.has D kl = false := by
      rw [Bool.eq_false_iff]
      intro e
      obtain ⟨c, h1, h2, h3⟩ := HG.out.1.1 e
      exact hhit ⟨c, h1, h2, by rw [h3, HN.out]; simp⟩
     have TN : Hid (TS ls w ((w2.setCell ⟨gc, 0, none⟩ (.int .i64 ((t : Int) + 1))).setCell ⟨gc, 1, none⟩ (.int .i64 (2 * V + bit))) rb rv ys B gc p (t + 1)) := by
      refine ⟨HP.out.2.2.1, HP.out.1, HP.out.2.2.2, HP.out.2.1, fun s hs => ?_, by have := HGC.out; omega⟩
      by_cases e : s <= t
      ·exact HNo.out s e
      ·have : s = t + 1 := by omega
       subst this
       exact hhit
     clear hhit HP
     go_wp2_with (at_lookup; refine wpList_lookup_own_ok_int _ rfl _ _ 185 rfl 136 5 .u8 keyedC Tryz.underlying185 Tryz.underlying5 (zero8 _) B n D rfl HOWN.out _ kl rfl HKL.out ?_; intro c' hat hwc)
     clear hat hwc HOWN
     go_wp2_with fail
     go_roundw
     case rel => exact ⟨t + 1, by omega, by go_num, TN⟩
     case measure => simp [intOf]; omega
   ·obtain ⟨hE, hV, hN⟩ := (tk1 (unpack ys) (8 * ys.length - (p + t)) (p + t)).1 (by omega)
    have HE : Hid (tkE (8 * ys.length - (p + t)) 1 = 3 /\ tkV (unpack ys) (8 * ys.length - (p + t)) (p + t) 1 = 0 /\ tkN (8 * ys.length - (p + t)) 1 = 0) := ⟨hE, hV, hN⟩
    clear hE hV hN
    go_wp2_with fail
    refine (zeo9 rb rv ys (p + t) 1 wr T.out.rr).mono ?_
    rintro e w2 ⟨rfl, hr2, ht2⟩
    rw [HE.out.1, HE.out.2.1]
    rw [HE.out.2.2] at hr2
    have HP : Hid (KM ls w2 B 256 /\ Tch (fun k => k = rb) w w2 /\ Rr w2 rb rv ys (p + t + 0)) := ⟨T.out.km.tch ht2 (fun e => T.out.km.ne_blk T.out.rr.blk e), T.out.tch.trans ht2 (fun _ _ e => e), hr2⟩
    have HNo : Hid (∀ s, s <= t -> ¬ ∃ c, Hit ls (unpack ys) p s c) := T.out.no
    clear hr2 ht2 T
    go_wp2_with fail
    go_ret2
    exact ⟨HP.out.1, HP.out.2.1, p + t + 0, HP.out.2.2, by omega, .inr ⟨rfl, fun s h1 h2 => HNo.out s (by omega)⟩⟩
  ·obtain rfl : t = 11 := by omega
   go_wp2_with fail
   go_ret2
   exact ⟨T.out.km, T.out.tch, p + 11, T.out.rr, by omega, .inr ⟨rfl, fun s h1 _ => T.out.no s h1⟩⟩
inductive Rn (ls bs : List Int) : List Int -> Nat -> Prop
 | nil : Rn ls bs [] 0
 | snoc (out : List Int) (q t c : Nat) (h : Rn ls bs out q) (hh : Hit ls bs q t c) : Rn ls bs (out ++ [(c : Int)]) (q + t)
theorem zrl9 (rb : Nat) (rv : Value) (ys : List Int) (p : Nat) (w : World) (hr : Rr w rb rv ys p) :
  Calls Tryz.prog 147 #[.pointer (some ⟨rb, 0, none⟩)] w fun e w' => e = .returned (.bool (val (unpack ys) p ((8 * ys.length - p) % 8) == 0)) /\ Tch (fun k => k = rb) w w' := by
 have HR : Hid (Rr w rb rv ys p) := hr
 obtain ⟨L, hL⟩ : ∃ L : Nat, 8 * ys.length - p = L := ⟨_, rfl⟩
 have hsm := hr.small
 have hLb : L <= 1125899906842624 := by omega
 have HL : Hid (8 * ys.length - p = L) := hL
 obtain ⟨z, hz⟩ : ∃ z, Hid (val (unpack ys) p (L % 8) = z) := ⟨_, rfl⟩
 rw [hL, hz.out]
 clear hr hL hsm
 have htk : tkE L ((L % 8 : Nat) : Int) = 0 /\ tkV (unpack ys) L p ((L % 8 : Nat) : Int) = val (unpack ys) p (L % 8) /\ tkN L ((L % 8 : Nat) : Int) = L % 8 := by
  unfold tkE tkV tkN
  rw [if_neg (by omega), if_neg (by omega), if_neg (by omega), if_neg (by omega), if_neg (by omega), if_neg (by omega)]
  exact ⟨rfl, rfl, rfl⟩
 have HTK : Hid (tkE L ((L % 8 : Nat) : Int) = 0 /\ tkV (unpack ys) L p ((L % 8 : Nat) : Int) = z) := ⟨htk.1, by rw [htk.2.1, hz.out]⟩
 clear htk
 have hrem : ((L : Int)).tmod 8 = ((L % 8 : Nat) : Int) := by rw [Int.tmod_eq_emod_of_nonneg (by omega)]; omega
 go_enter Tryz.func147, Tryz.ntmps147
 go_wp2_with fail
 refine (zbt9 rb rv ys p w HR.out).mono ?_
 rintro e w1 ⟨rfl, q, hw1⟩
 rw [HL.out]
 have H1 : Hid (Rr w1 rb rv ys p) := by rw [hw1]; exact HR.out.tch (Tch.of_drewN (fun _ => False) w q) (fun e => e) (fun _ _ e => e)
 have T1 : Hid (Tch (fun k => k = rb) w w1) := by rw [hw1]; exact Tch.of_drewN _ w q
 clear hw1
 have hTA := zeo9 rb rv ys p ((L % 8 : Nat) : Int) w1 H1.out
 rw [HL.out, HTK.out.1, HTK.out.2] at hTA
 go_wp2_with fail
 refine hTA.mono ?_
 clear hTA
 rintro e w2 ⟨rfl, _, ht2⟩
 have T2 : Hid (Tch (fun k => k = rb) w w2) := T1.out.trans ht2 (fun _ _ e => e)
 clear ht2
 go_wp2_with fail
 go_ret
 exact ⟨rfl, T2.out⟩
def DPost (ls ys : List Int) (n : Int) (w : World) (e : Ending) (w' : World) : Prop :=
 ∃ rv E, e = .returned (.tuple #[rv, .int .i64 E]) /\ Below w.heap.size w w' /\ (∀ k, rv.ownBlock = some k -> w.heap.size <= k) ∧
  ((E ≠ 0 /\ rv = .slice none 0 0 /\ ((E = 4 /\ mayC ls = false) ∨ (E = 1 /\ mayC ls = true /\ (n < 0 ∨ 65536 < n)) ∨
    (E = 3 /\ mayC ls = true /\ 0 <= n /\ n <= 65536 /\ ((∃ out q, Rn ls (unpack ys) out q /\ (out.length : Int) < n /\ ∀ t, t <= 11 -> q + t <= 8 * ys.length -> ¬ ∃ c, Hit ls (unpack ys) q t c) ∨
     ∃ out q, Rn ls (unpack ys) out q /\ (out.length : Int) = n /\ (8 <= 8 * ys.length - q ∨ val (unpack ys) q ((8 * ys.length - q) % 8) ≠ 0))))) ∨
   (E = 0 /\ mayC ls = true /\ 0 <= n /\ n <= 65536 /\ ∃ out q, Rn ls (unpack ys) out q /\ (out.length : Int) = n /\ q <= 8 * ys.length /\ 8 * ys.length - q < 8 /\ val (unpack ys) q ((8 * ys.length - q) % 8) = 0 /\ Owns .u8 5 w' rv out))
structure Ds (ls : List Int) (w W : World) (B rb : Nat) (rv d : Value) (ys out : List Int) (q : Nat) : Prop where
 rr : Rr W rb rv ys q
 km : KM ls W B 256
 own : Owns .u8 5 W d out
 rn : Rn ls (unpack ys) out q
 bel : Below w.heap.size w W
 rbn : w.heap.size <= rb
 dn : ∀ k, d.ownBlock = some k -> w.heap.size <= k
 ne : ∀ k, rv.ownBlock = some k -> d.ownBlock ≠ some k
theorem Ds.ner {ls : List Int} {w W : World} {B rb : Nat} {rv d : Value} {ys out : List Int} {q : Nat} (h : Ds ls w W B rb rv d ys out q) : ∀ k, d.ownBlock = some k -> k ≠ rb := by
 intro k hk e
 obtain ⟨c1, h1⟩ := zag9 (show W.ownsRow 0 5 1 d out.length (out.map (Value.int .u8)) from h.own) hk
 rw [e, h.rr.blk] at h1
 simp at h1
theorem Ds.moved {ls : List Int} {w W W' : World} {B rb : Nat} {rv d : Value} {ys out : List Int} {q : Nat} (h : Ds ls w W B rb rv d ys out q) (ht : Tch (fun k => k = rb) W W') :
  Owns .u8 5 W' d out /\ Below w.heap.size w W' := ⟨h.own.tch ht (fun k hk e => h.ner k hk e), h.bel.trans (ht.below h.bel.size (fun k e => by rw [e]; exact h.rbn))⟩
theorem Ds.next {ls : List Int} {w W W6 W7 : World} {B rb : Nat} {rv d d' : Value} {ys out out' : List Int} {q q6 : Nat} (h : Ds ls w W B rb rv d ys out q) (ht : Tch (fun k => k = rb) W W6) (hr6 : Rr W6 rb rv ys q6) (hk6 : KM ls W6 B 256)
  (ho : Owns .u8 5 W7 d' out') (hg : Grew W6 W7 d d') (hr : Rn ls (unpack ys) out' q6) : Ds ls w W7 B rb rv d' ys out' q6 := by
 obtain ⟨o6, b6⟩ := h.moved ht
 have hb := hg.onto b6 h.dn
 refine ⟨hr6.tch hg.tch (fun e => h.ner rb e rfl) (fun k hk e => h.ne k hk e), hk6.tch hg.tch (fun e => ?_), ho, hr, hb.1, h.rbn, hb.2, fun k hk e => ?_⟩
 ·obtain ⟨c1, h1⟩ := zag9 (show W6.ownsRow 0 5 1 d out.length (out.map (Value.int .u8)) from o6) e
  exact hk6.ne_blk h1 rfl
 ·rcases hg.fresh k e with e2 | e2
  ·exact h.ne k hk e2
  ·have := hr6.own.lt k hk; omega
theorem zpn9 (lv dv : Value) (ls ys : List Int) (n : Int) (w : World) (hr : Rd .i64 w lv ls) (hd : Rd .u8 w dv ys) (hy : By ys) (hl : ys.length <= 140737488355328) :
  Calls Tryz.prog 131 #[lv, dv, .int .i64 n] w fun e w' => DPost ls ys n w e w' := by
 have HR : Hid (Rd .i64 w lv ls) := hr
 have HD : Hid (Rd .u8 w dv ys) := hd
 have HY : Hid (By ys) := hy
 clear hr hd hy
 cases hm : mayC ls with
 | false =>
  have HM : Hid (mayC ls = false) := hm
  clear hm
  go_enter Tryz.func131, Tryz.ntmps131
  go_wp2_with fail
  refine (zbx9 lv ls w HR.out).mono ?_
  rintro e w1 ⟨rfl, rfl⟩
  rw [HM.out]
  go_wp2_with fail
  go_ret2
  exact ⟨_, 4, rfl, Below.refl _ _, (fun k e => by cases e), .inl ⟨by decide, rfl, .inl ⟨rfl, HM.out⟩⟩⟩
 | true =>
  have HM : Hid (mayC ls = true) := hm
  have HK : Hid (LOk ls) := LOk.of hm
  clear hm
  by_cases hn : n < 0 ∨ 65536 < n
  ·have HN : Hid (n < 0 ∨ 65536 < n) := hn
   rcases hn with hn | hn
   all_goals
    go_enter Tryz.func131, Tryz.ntmps131
    go_wp2_with fail
    refine (zbx9 lv ls w HR.out).mono ?_
    rintro e w1 ⟨rfl, rfl⟩
    rw [HM.out]
    go_wp2_with fail
    go_ret2
    exact ⟨_, 1, rfl, Below.refl _ _, (fun k e => by cases e), .inl ⟨by decide, rfl, .inr (.inl ⟨rfl, HM.out, HN.out⟩)⟩⟩
  ·obtain ⟨m, rfl⟩ := Int.eq_ofNat_of_zero_le (show 0 <= n by omega)
   have hm1 : m <= 65536 := by omega
   clear hn
   obtain ⟨i0, hi, hz0, hz1, hz2⟩ := elem8.info
   go_enter Tryz.func131, Tryz.ntmps131
   go_wp2_with fail
   refine (zbx9 lv ls w HR.out).mono ?_
   rintro e w1 ⟨rfl, rfl⟩
   rw [HM.out]
   go_wp2_with fail
   refine (zsb9 lv ls w1 HR.out HK.out).mono ?_
   rintro e w2 ⟨B, rfl, hk2, hb2, hB2⟩
   have K2 : Hid (KM ls w2 B 256) := hk2
   have B2 : Hid (Below w1.heap.size w1 w2) := hb2
   clear hk2 hb2 hB2
   go_wp2_with fail
   refine (zbv9 dv ys w2 (HD.out.below B2.out) HY.out hl).mono ?_
   rintro e w3 ⟨rb, rv, rfl, hr3, hb3, hrb3, hrv3⟩
   have K3 : Hid (KM ls w3 B 256) := K2.out.tch (S := fun _ => False) (Tch.of_below hb3) (fun e => e)
   have B3 : Hid (Below w1.heap.size w1 w3) := B2.out.trans (hb3.mono B2.out.size)
   have R3 : Hid (Rr w3 rb rv ys 0) := hr3
   have N3 : Hid (w1.heap.size <= rb) := Nat.le_trans B2.out.size hrb3
   clear hr3 hb3 hrb3 hrv3 K2 B2
   go_wp2_with (at_make; refine wpList_make_own _ rfl (.const (.int .i64 0)) (.tmp 26) 22 rfl 0 5 i0 _ 1 Tryz.underlying22 hi hz0 hz1 .i64 .i64 _ m rfl rfl rfl (by rw [hz2]; omega) (by unfold maxLen; omega) (Nat.zero_le _) ?_)
   intro w4 ho4 hg4
   have D4 : Hid (Ds ls w1 w4 B rb rv (.slice (some ⟨w3.heap.size, 0, none⟩) 0 m) ys [] 0) := by
    have b4 : Below w3.heap.size w3 w4 := (Below.refl _ _).grown hg4 (Nat.le_refl _) (fun k e => by cases e)
    refine ⟨R3.out.below b4, K3.out.tch (S := fun _ => False) (Tch.of_below b4) (fun e => e), ho4, Rn.nil, B3.out.trans (b4.mono B3.out.size), N3.out, fun k hk => ?_, fun k hk e => ?_⟩
    ·simp only [Value.ownBlock, Option.some.injEq] at hk
     have := B3.out.size
     omega
    ·simp only [Value.ownBlock, Option.some.injEq] at e
     have := R3.out.own.lt k hk
     omega
   clear ho4 hg4 K3 B3 R3 N3 hi hz0 hz1 hz2
   go_wp2_with fail
   go_loopw [10, 29] (fun d i wr => ∃ (k q : Nat) (out : List Int), k <= m /\ i = .int .i64 k /\ out.length = k /\ Hid (Ds ls w1 wr B rb rv d ys out q)) (fun _ i _ => m - (intOf i).toNat)
   case atStart => exact ⟨0, 0, [], Nat.zero_le _, rfl, rfl, D4⟩
   case round =>
    obtain ⟨k, q, out, hk, rfl, hol, D5⟩ := hrel
    clear D4
    by_cases hlt : k < m
    ·go_wp2_with fail
     refine (zjd9 ls rb B rv ys q wr D5.out.rr D5.out.km).mono ?_
     rintro e w6 ⟨hk6, ht6, q6, hr6, hq6, hcase⟩
     obtain ⟨ho6, hb6⟩ := D5.out.moved ht6
     rcases hcase with ⟨c, t, rfl, rfl, hh⟩ | ⟨rfl, hno⟩
     ·have HO6 : Hid (Owns .u8 5 w6 u10 out) := ho6
      have HNX : Hid (∀ (W7 : World) (d' : Value), Owns .u8 5 W7 d' (out ++ [(c : Int)]) -> Grew w6 W7 u10 d' -> Ds ls w1 W7 B rb rv d' ys (out ++ [(c : Int)]) (q + t)) := fun W7 d' h1 h2 => D5.out.next ht6 hr6 hk6 h1 h2 (Rn.snoc out q t c D5.out.rn hh)
      clear hk6 ht6 hr6 hq6 ho6 hb6 hh D5
      go_wp2_with (at_builtin; refine zd9 _ rfl (.tmp 40) (.tmp 42) 22 rfl 5 .u8 1 elem8 _ out rfl HO6.out (c : Int) rfl (by omega) (by omega) ?_)
      intro d7 w7 ho7 hg7
      have D7 : Hid (Ds ls w1 w7 B rb rv d7 ys (out ++ [(c : Int)]) (q + t)) := HNX.out w7 d7 ho7 hg7
      clear ho7 hg7 HO6 HNX
      go_wp2_with fail
      go_roundw
      case rel => exact ⟨k + 1, q + t, out ++ [(c : Int)], by omega, by go_num, by simp; omega, D7⟩
      case measure => simp [intOf]; omega
     ·have HP : Hid (Below w1.heap.size w1 w6) := hb6
      have HF : Hid (∃ out q, Rn ls (unpack ys) out q /\ (out.length : Int) < (m : Int) /\ ∀ t, t <= 11 -> q + t <= 8 * ys.length -> ¬ ∃ c, Hit ls (unpack ys) q t c) := ⟨out, q, D5.out.rn, by omega, hno⟩
      clear hk6 ht6 hr6 hq6 hno ho6 hb6 D5
      go_wp2_with fail
      go_ret2
      exact ⟨_, 3, rfl, HP.out, (fun k e => by cases e), .inl ⟨by decide, rfl, .inr (.inr ⟨rfl, HM.out, by omega, by omega, .inl HF.out⟩)⟩⟩
    ·obtain rfl : k = m := by omega
     have hqle := D5.out.rr.le
     obtain ⟨L, hL⟩ : ∃ L : Nat, 8 * ys.length - q = L := ⟨_, rfl⟩
     have HL : Hid (8 * ys.length - q = L) := hL
     clear hL
     go_wp2_with fail
     refine (zbt9 rb rv ys q wr D5.out.rr).mono ?_
     rintro e w6 ⟨rfl, dq, hw6⟩
     rw [HL.out]
     have R6 : Hid (Rr w6 rb rv ys q) := by rw [hw6]; exact D5.out.rr.tch (Tch.of_drewN (fun _ => False) wr dq) (fun e => e) (fun _ _ e => e)
     have O6 : Hid (Owns .u8 5 w6 u10 out /\ Below w1.heap.size w1 w6) := by rw [hw6]; exact D5.out.moved (Tch.of_drewN _ wr dq)
     have HRN : Hid (Rn ls (unpack ys) out q) := D5.out.rn
     have HDN : Hid (∀ k, u10.ownBlock = some k -> w1.heap.size <= k) := D5.out.dn
     have HNR : Hid (∀ k, u10.ownBlock = some k -> k ≠ rb) := D5.out.ner
     have HRB : Hid (w1.heap.size <= rb) := D5.out.rbn
     clear hw6 D5
     by_cases hL8 : 8 <= L
     ·have hL8' : (8 : Int) <= (L : Int) := by omega
      go_wp2_with fail
      go_ret2
      exact ⟨_, 3, rfl, O6.out.2, (fun k e => by cases e), .inl ⟨by decide, rfl, .inr (.inr ⟨rfl, HM.out, by omega, by omega, .inr ⟨out, q, HRN.out, by omega, .inl (by have := HL.out; omega)⟩⟩)⟩⟩
     ·have hL8' : ¬ (8 : Int) <= (L : Int) := by omega
      have hZ := zrl9 rb rv ys q w6 R6.out
      rw [HL.out] at hZ
      obtain ⟨z, hz⟩ : ∃ z, Hid (val (unpack ys) q (L % 8) = z) := ⟨_, rfl⟩
      rw [hz.out] at hZ
      by_cases hz0 : z = 0
      ·have hzb : (z == 0) = true := by simp [hz0]
       rw [hzb] at hZ
       have HZ0 : Hid (z = 0) := hz0
       clear hz0 hzb
       go_wp2_with fail
       refine hZ.mono ?_
       clear hZ
       rintro e w7 ⟨rfl, ht7⟩
       have O7 : Hid (Owns .u8 5 w7 u10 out /\ Below w1.heap.size w1 w7) := ⟨O6.out.1.tch ht7 (fun k hk e => HNR.out k hk e), O6.out.2.trans (ht7.below O6.out.2.size (fun k e => by rw [e]; exact HRB.out))⟩
       clear ht7 O6 R6
       go_wp2_with fail
       go_ret2
       refine ⟨u10, 0, rfl, O7.out.2, HDN.out, .inr ⟨rfl, HM.out, by omega, by omega, out, q, HRN.out, by omega, hqle, by have := HL.out; omega, ?_, O7.out.1⟩⟩
       rw [HL.out, hz.out]; exact HZ0.out
      ·have hzb : (z == 0) = false := by simp [hz0]
       rw [hzb] at hZ
       have HZ0 : Hid (z ≠ 0) := hz0
       clear hz0 hzb
       go_wp2_with fail
       refine hZ.mono ?_
       clear hZ
       rintro e w7 ⟨rfl, ht7⟩
       have B7 : Hid (Below w1.heap.size w1 w7) := O6.out.2.trans (ht7.below O6.out.2.size (fun k e => by rw [e]; exact HRB.out))
       clear ht7 O6 R6
       go_wp2_with fail
       go_ret2
       exact ⟨_, 3, rfl, B7.out, (fun k e => by cases e), .inl ⟨by decide, rfl, .inr (.inr ⟨rfl, HM.out, by omega, by omega, .inr ⟨out, q, HRN.out, by omega, .inr (by rw [HL.out, hz.out]; exact HZ0.out)⟩⟩)⟩⟩
end Go.Proofs.YtobenjkacpipeaaGreat
namespace Go.Proofs.YtobenjkacpipeaaGreat
open Go.RowKit Pl
theorem vl_div {bs : List Int} (h : Bits bs) (p t d : Nat) : vl bs p (t + d) / 2 ^ d = vl bs p t := by
 induction d with
 | zero => simp
 | succ d ih =>
  rw [show t + (d + 1) = t + d + 1 by omega]
  simp only [vl]
  have hb := h (p + (t + d))
  have e : (2 : Int) ^ (d + 1) = 2 * 2 ^ d := by rw [Int.pow_succ, Int.mul_comm]
  rw [e, <- Int.ediv_ediv_of_nonneg (by decide), show (2 * vl bs p (t + d) + bs.getD (p + (t + d)) 0) / 2 = vl bs p (t + d) by omega, ih]
theorem zjp9 {ls bs : List Int} (hk : LOk ls) {p t c : Nat} (h : Hit ls bs p t c) : 1 <= t /\ t <= 11 /\ vl bs p t = (nx ls (t - 1) c : Int) /\ ls.getD c 0 = (t : Int) /\ c < ls.length := by
 obtain ⟨s, v, h1, h2, h3, h4, h5, h6, h7, h8⟩ := hk.code h.2.1
 have := h.2.2.symm.trans h4
 simp only [Prod.mk.injEq] at this
 have e : t = s := by omega
 subst e
 exact ⟨h1, h2, by rw [this.2, h7], h6, h8⟩
theorem zpw9 {ls bs : List Int} (hk : LOk ls) (hb : Bits bs) {p t c t' c' : Nat} (h : Hit ls bs p t c) (h' : Hit ls bs p t' c') : t = t' /\ c = c' := by
 obtain ⟨a1, a2, a3, a4, a5⟩ := zjp9 hk h
 obtain ⟨b1, b2, b3, b4, b5⟩ := zjp9 hk h'
 rcases Nat.lt_trichotomy t t' with e | e | e
 ·exfalso
  have h1 := zib9 ls (s := t - 1) (t := t' - 1) (b := c) (c := c') (by omega) a5 (by rw [a4]; omega)
  have h2 := vl_div hb p t (t' - t)
  rw [show t + (t' - t) = t' by omega, a3, b3] at h2
  rw [show t' - 1 - (t - 1) = t' - t by omega] at h1
  have h3 : ((nx ls (t' - 1) c' / 2 ^ (t' - t) : Nat) : Int) = (nx ls (t - 1) c : Int) := by push_cast; exact h2
  omega
 ·subst e
  exact ⟨rfl, zor9 h.2.1 h'.2.1 (h.2.2.trans h'.2.2.symm)⟩
 ·exfalso
  have h1 := zib9 ls (s := t' - 1) (t := t - 1) (b := c') (c := c) (by omega) b5 (by rw [b4]; omega)
  have h2 := vl_div hb p t' (t - t')
  rw [show t' + (t - t') = t by omega, a3, b3] at h2
  rw [show t - 1 - (t' - 1) = t - t' by omega] at h1
  have h3 : ((nx ls (t - 1) c / 2 ^ (t - t') : Nat) : Int) = (nx ls (t' - 1) c' : Int) := by push_cast; exact h2
  omega
theorem rn_det {ls bs : List Int} (hk : LOk ls) (hb : Bits bs) {out : List Int} {q : Nat} (h : Rn ls bs out q) : ∀ {out' : List Int} {q' : Nat}, Rn ls bs out' q' -> out.length = out'.length -> out = out' /\ q = q' := by
 induction h with
 | nil =>
  intro out' q' h' hl
  cases h' with
  | nil => exact ⟨rfl, rfl⟩
  | snoc o q t c h hh => simp at hl
 | snoc o q t c h hh ih =>
  intro out' q' h' hl
  cases h' with
  | nil => simp at hl
  | snoc o' q2 t2 c2 h2 hh2 =>
   obtain ⟨rfl, rfl⟩ := ih h2 (by simpa using hl)
   obtain ⟨rfl, rfl⟩ := zpw9 hk hb hh hh2
   exact ⟨rfl, rfl⟩
theorem zxd9 {ls bs : List Int} (hk : LOk ls) {out : List Int} {Q : Nat} (h : Rn ls bs out Q) : ∀ k, k < out.length -> ∃ q t c, Rn ls bs (out.take k) q /\ Hit ls bs q t c /\ q + t <= Q /\ t <= 11 := by
 induction h with
 | nil => intro k hk; simp at hk
 | snoc o q t c h hh ih =>
  intro k hkl
  simp at hkl
  by_cases e : k = o.length
  ·subst e
   exact ⟨q, t, c, by rw [List.take_left']; (· exact h); (· rfl), hh, Nat.le_refl _, (zjp9 hk hh).2.1⟩
  ·obtain ⟨q1, t1, c1, h1, h2, h3, h4⟩ := ih k (by omega)
   refine ⟨q1, t1, c1, ?_, h2, by omega, h4⟩
   rw [List.take_append_of_le_length (by omega)]
   exact h1
end Go.Proofs.YtobenjkacpipeaaGreat
namespace Go.Proofs.YtobenjkacpipeaaGreat
open Go.RowKit Pl Hf
theorem zmt9 {ls ys out : List Int} {q : Nat} {n : Int} {w w' : World} {e : Ending} (hm : mayC ls = true) (hr : Rn ls (unpack ys) out q) (hn : (out.length : Int) = n) (hn2 : n <= 65536) (hq : q <= 8 * ys.length) (hL : 8 * ys.length - q < 8) (hz : val (unpack ys) q ((8 * ys.length - q) % 8) = 0)
  (h : DPost ls ys n w e w') : ∃ rv, e = .returned (.tuple #[rv, .int .i64 0]) /\ Below w.heap.size w w' /\ (∀ k, rv.ownBlock = some k -> w.heap.size <= k) /\ Owns .u8 5 w' rv out := by
 have hk := LOk.of hm
 have hbits := zt9 ys
 obtain ⟨rv, E, rfl, hb, hf, h⟩ := h
 rcases h with ⟨_, _, h⟩ | ⟨rfl, _, _, _, out', q', h1, h2, _, _, _, ho⟩
 ·exfalso
  rcases h with ⟨_, h⟩ | ⟨_, _, h⟩ | ⟨_, _, _, _, h⟩
  ·rw [hm] at h; cases h
  ·omega
  ·rcases h with ⟨o, p, h1, h2, h3⟩ | ⟨o, p, h1, h2, h3⟩
   ·obtain ⟨q1, t, c, g1, g2, g3, g4⟩ := zxd9 hk hr o.length (by omega)
    obtain ⟨_, rfl⟩ := rn_det hk hbits h1 g1 (by rw [List.length_take]; omega)
    exact h3 t g4 (by omega) ⟨c, g2⟩
   ·obtain ⟨_, rfl⟩ := rn_det hk hbits h1 hr (by omega)
    rcases h3 with h3 | h3
    ·omega
    ·exact h3 hz
 ·obtain ⟨rfl, rfl⟩ := rn_det hk hbits h1 hr (by omega)
  exact ⟨rv, rfl, hb, hf, ho⟩
end Go.Proofs.YtobenjkacpipeaaGreat
