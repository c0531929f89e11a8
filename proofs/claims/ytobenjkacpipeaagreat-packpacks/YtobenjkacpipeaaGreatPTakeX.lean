import Derived.Test.YtobenjkacpipeaaGreatPNum
import Derived.Test.YtobenjkacpipeaaGreatPE64
import Derived.Test.YtobenjkacpipeaaGreatPLen8
import Derived.Test.YtobenjkacpipeaaGreatPMem
import Derived.WalkKit
import Derived.WalkSpells
import Derived.Deep.RegionHeld3
set_option maxRecDepth 100000
set_option linter.unusedVariables false
set_option linter.unusedSimpArgs false
set_option maxHeartbeats 8000000
namespace Go.Proofs.YtobenjkacpipeaaGreat
open Go.RowKit Pl
theorem zbv9 (v : Value) (ys : List Int) (w : World) (h : Rd .u8 w v ys) (hy : By ys) (hl : ys.length <= 140737488355328) :
  Calls Tryz.prog 103 #[v] w fun e w' => ∃ b rv, e = .returned (.pointer (some ⟨b, 0, none⟩)) /\ Rr w' b rv ys 0 /\ Below w.heap.size w w' /\ w.heap.size <= b /\ ∀ k, rv.ownBlock = some k -> w.heap.size <= k := by
 have H : Hid (Rd .u8 w v ys) := h
 have HY : Hid (By ys) := hy
 clear h hy
 go_enter Tryz.func103, Tryz.ntmps103
 go_wp2_with fail
 refine (zde9 v ys w H.out hl).mono ?_
 rintro e w1 ⟨v1, rfl, ho, hg⟩
 obtain ⟨b1, f1⟩ := hg.below
 have HO : Hid (Owns .u8 5 w1 v1 ys) := ho
 have B1 : Hid (Below w.heap.size w w1) := b1
 have F1 : Hid (∀ k, v1.ownBlock = some k -> w.heap.size <= k) := f1
 clear ho hg b1 f1
 obtain ⟨a, cap, hv⟩ : ∃ a cap, v1 = .slice a ys.length cap := by obtain ⟨a, cap, e, _⟩ := HO.out.rd; exact ⟨a, cap, e⟩
 subst hv
 go_wp2_with fail
 go_ret
 refine ⟨w1.heap.size, _, rfl, ⟨heap_alloc_new w1 _, HO.out.below ((Below.refl _ _).alloc (Nat.le_refl _) _), HY.out, Nat.zero_le _, hl⟩, B1.out.alloc B1.out.size _, B1.out.size, F1.out⟩
theorem zeo9 (b : Nat) (rv : Value) (ys : List Int) (p : Nat) (n : Int) (w : World) (h : Rr w b rv ys p) :
  Calls Tryz.prog 134 #[.pointer (some ⟨b, 0, none⟩), .int .i64 n] w fun e w' =>
   e = .returned (.tuple #[.int .i64 (tkV (unpack ys) (8 * ys.length - p) p n), .int .i64 (tkE (8 * ys.length - p) n)]) /\ Rr w' b rv ys (p + tkN (8 * ys.length - p) n) /\ Tch (fun k => k = b) w w' := by
 have H : Hid (Rr w b rv ys p) := h
 have hle := h.le
 have hsm := h.small
 have c0 := h.c0
 have c1 := h.c1
 have f1 := h.fz 1
 clear h
 by_cases hE : tkE (8 * ys.length - p) n = 0
 ·have hn : 0 <= n /\ n <= 32 /\ n <= ((8 * ys.length - p : Nat) : Int) := by
   unfold tkE at hE
   split at hE
   ·cases hE
   ·split at hE
    ·cases hE
    ·omega
  obtain ⟨m, rfl⟩ := Int.eq_ofNat_of_zero_le hn.1
  have eV : tkV (unpack ys) (8 * ys.length - p) p m = val (unpack ys) p m := by
   unfold tkV; rw [if_neg (by omega), if_neg (by omega)]; rfl
  have eN : tkN (8 * ys.length - p) m = m := by
   unfold tkN; rw [if_neg (by omega), if_neg (by omega)]; rfl
  have HE : Hid (tkE (8 * ys.length - p) m = 0) := hE
  rw [eV, eN, hE]
  clear eV eN hE
  obtain ⟨L, hL⟩ : ∃ L : Nat, 8 * ys.length - p = L := ⟨_, rfl⟩
  rw [hL] at HE hn
  have HL : Hid (8 * ys.length - p = L) := hL
  have hm1 : m <= 32 := by omega
  have hm2 : p + m <= 8 * ys.length := by omega
  clear hL hn
  clear c0 c1 f1
  go_enter Tryz.func134, Tryz.ntmps134
  go_wp2_with fail
  refine (zbt9 b rv ys p w H.out).mono ?_
  rintro e w1 ⟨rfl, q, hw1⟩
  have H1 : Hid (Rr w1 b rv ys p) := by rw [hw1]; exact H.out.tch (Tch.of_drewN (fun _ => False) w q) (fun e => e) (fun _ _ e => e)
  have T1 : Hid (Tch (fun k => k = b) w w1) := by rw [hw1]; exact Tch.of_drewN _ w q
  clear hw1
  rw [HL.out]
  go_wp2_with fail
  refine (zcc9 _ L _).mono ?_
  rintro e w2 ⟨rfl, rfl⟩
  rw [HE.out]
  have c0 := H1.out.c0
  have c1 := H1.out.c1
  have f1 := H1.out.fz 1
  go_wp2_with fail
  go_quiet ((go_at_call 156; exact Calls.quiet_of_same (zlo9 rv p m ys _ (by exact H1.out.own.rd) H1.out.bys (by omega) hm2 hm1)))
  go_wp2_with fail
  go_ret2
  have em : (((p + m : Nat) : Int)) = (p : Int) + m := by omega
  refine ⟨rfl, ?_, ?_⟩
  ·have := (H1.out.tch (Tch.of_drewN (fun _ => False) w2 nq) (fun e => e) (fun _ _ e => e)).move (p + m) hm2
   rw [em] at this
   exact this
  ·exact T1.out.trans (S' := fun k => k = b) (Tch.setCell (Tch.of_drewN (fun k => k = b) w2 nq) (p := ⟨b, 1, none⟩) (fun _ => rfl) _) (fun _ _ e => e)
 ·have hz : tkV (unpack ys) (8 * ys.length - p) p n = 0 /\ tkN (8 * ys.length - p) n = 0 := by
   unfold tkE at hE
   unfold tkV tkN
   split at hE
   ·rename_i h; rw [if_pos h, if_pos h]; exact ⟨rfl, rfl⟩
   ·rename_i h
    split at hE
    ·rename_i h2; rw [if_neg h, if_pos h2, if_neg h, if_pos h2]; exact ⟨rfl, rfl⟩
    ·exact absurd rfl hE
  rw [hz.1, hz.2]
  obtain ⟨E, hEE⟩ : ∃ E, tkE (8 * ys.length - p) n = E := ⟨_, rfl⟩
  rw [hEE] at hE ⊢
  have HE : Hid (tkE (8 * ys.length - p) n = E) := hEE
  have hne : (E != 0) = true := by simpa using hE
  clear hz hE hEE c0 c1 f1
  go_enter Tryz.func134, Tryz.ntmps134
  go_wp2_with fail
  refine (zbt9 b rv ys p w H.out).mono ?_
  rintro e w1 ⟨rfl, q, hw1⟩
  have H1 : Hid (Rr w1 b rv ys p) := by rw [hw1]; exact H.out.tch (Tch.of_drewN (fun _ => False) w q) (fun e => e) (fun _ _ e => e)
  have T1 : Hid (Tch (fun k => k = b) w w1) := by rw [hw1]; exact Tch.of_drewN _ w q
  clear hw1
  go_wp2_with fail
  refine (zcc9 _ _ _).mono ?_
  rintro e w2 ⟨rfl, rfl⟩
  rw [HE.out]
  go_wp2_with fail
  go_ret2
  exact ⟨rfl, H1.out, T1.out⟩
theorem zit9 : ∀ n : Fin 256, n.val ≠ 0 -> 1 <= Lib.bitLen n.val /\ Lib.bitLen n.val <= 8 /\ n.val / 2 ^ (Lib.bitLen n.val - 1) % 2 = 1 /\ ∀ j : Fin 8, Lib.bitLen n.val <= j.val -> n.val / 2 ^ j.val % 2 = 0 := by decide +kernel
def markAt (ys : List Int) : Nat := 8 * (ys.length - 1) + (Lib.bitLen (ys.getD (ys.length - 1) 0).toNat - 1)
def zgb9 (ys : List Int) : Prop := 0 < ys.length /\ ys.getD (ys.length - 1) 0 ≠ 0
theorem zyp9 {ys : List Int} (hy : By ys) (h : zgb9 ys) : markAt ys < 8 * ys.length /\ (unpack ys).getD (markAt ys) 0 = 1 /\ ∀ p, markAt ys < p -> p < 8 * ys.length -> (unpack ys).getD p 0 = 0 := by
 obtain ⟨hl, hne⟩ := h
 have hb := hy (ys.length - 1)
 obtain ⟨y, hye⟩ : ∃ y : Nat, ys.getD (ys.length - 1) 0 = (y : Int) := Int.eq_ofNat_of_zero_le hb.1
 obtain ⟨h1, h2, h3, h4⟩ := zit9 ⟨y, by omega⟩ (by simp; omega)
 simp only at h1 h2 h3 h4
 have em : markAt ys = 8 * (ys.length - 1) + (Lib.bitLen y - 1) := by unfold markAt; rw [hye]; rfl
 rw [em]
 refine ⟨by omega, ?_, fun p hp hpl => ?_⟩
 ·rw [zcg9, show (8 * (ys.length - 1) + (Lib.bitLen y - 1)) / 8 = ys.length - 1 by omega, show (8 * (ys.length - 1) + (Lib.bitLen y - 1)) % 8 = Lib.bitLen y - 1 by omega, hye]
  exact_mod_cast h3
 ·rw [zcg9, show p / 8 = ys.length - 1 by omega, hye]
  have := h4 ⟨p % 8, by omega⟩ (by simp only; omega)
  simp only at this
  exact_mod_cast this
structure Bk (w : World) (b : Nat) (rv : Value) (ys : List Int) (p : Nat) : Prop where
 blk : w.heap[b]? = some (.cells #[rv, .int .i64 p] 200 (0, 0))
 own : Owns .u8 5 w rv ys
 bys : By ys
 le : p <= 8 * ys.length
 small : ys.length <= 140737488355328
theorem Bk.c0 {w : World} {b : Nat} {rv : Value} {ys : List Int} {p : Nat} (h : Bk w b rv ys p) : w.cell? ⟨b, 0, none⟩ = some rv := by
 rw [cell_of_row w b 0 _ _ (0, 0) h.blk]; rfl
theorem Bk.c1 {w : World} {b : Nat} {rv : Value} {ys : List Int} {p : Nat} (h : Bk w b rv ys p) : w.cell? ⟨b, 1, none⟩ = some (.int .i64 p) := by
 rw [cell_of_row w b 1 _ _ (0, 0) h.blk]; rfl
theorem Bk.fz {w : World} {b : Nat} {rv : Value} {ys : List Int} {p : Nat} (h : Bk w b rv ys p) (j : Nat) : w.frozen? ⟨b, j, none⟩ = false := frozen_of_row w b j _ _ h.blk
theorem Bk.lt {w : World} {b : Nat} {rv : Value} {ys : List Int} {p : Nat} (h : Bk w b rv ys p) : b < w.heap.size := (Array.getElem?_eq_some_iff.1 h.blk).1
theorem Bk.tch {S : Nat -> Prop} {w w' : World} {b : Nat} {rv : Value} {ys : List Int} {p : Nat} (h : Bk w b rv ys p) (ht : Tch S w w') (hb : ¬ S b) (hr : ∀ k, rv.ownBlock = some k -> ¬ S k) : Bk w' b rv ys p :=
 ⟨by rw [ht.block b h.lt hb]; exact h.blk, h.own.tch ht hr, h.bys, h.le, h.small⟩
theorem Bk.below {w w' : World} {b : Nat} {rv : Value} {ys : List Int} {p : Nat} (h : Bk w b rv ys p) (ht : Below w.heap.size w w') : Bk w' b rv ys p :=
 h.tch (S := fun _ => False) (Tch.of_below ht) (fun e => e) (fun _ _ e => e)
theorem Bk.ne {w : World} {b : Nat} {rv : Value} {ys : List Int} {p : Nat} (h : Bk w b rv ys p) : rv.ownBlock ≠ some b := by
 intro hg
 rcases h.own.2 with ⟨rfl, _⟩ | ⟨g', cap, cur, rfl, _, hgg, _⟩
 ·simp [Value.ownBlock] at hg
 ·simp only [Value.ownBlock, Option.some.injEq] at hg
  subst hg
  rw [h.blk] at hgg
  simp at hgg
theorem Bk.move {w : World} {b : Nat} {rv : Value} {ys : List Int} {p : Nat} (h : Bk w b rv ys p) (q : Nat) (hq : q <= 8 * ys.length) : Bk (w.setCell ⟨b, 1, none⟩ (.int .i64 q)) b rv ys q := by
 refine ⟨?_, h.own.tch (S := fun k => k = b) ((Tch.refl (fun k => k = b) w).setCell (p := ⟨b, 1, none⟩) (fun _ => rfl) _) (fun j hj e => h.ne (by rw [hj, e])), h.bys, hq, h.small⟩
 rw [heap_setCell_same w b 1 _ _ (.int .i64 q) h.blk]
 simp
theorem zei9 (b : Nat) (rv : Value) (ys : List Int) (p : Nat) (n : Int) (w : World) (h : Bk w b rv ys p) :
  Calls Tryz.prog 160 #[.pointer (some ⟨b, 0, none⟩), .int .i64 n] w fun e w' =>
   e = .returned (.tuple #[.int .i64 (tkV (unpack ys) p (p - tkN p n) n), .int .i64 (tkE p n)]) /\ Bk w' b rv ys (p - tkN p n) /\ Tch (fun k => k = b) w w' := by
 have H : Hid (Bk w b rv ys p) := h
 have hle := h.le
 have hsm := h.small
 have c0 := h.c0
 have c1 := h.c1
 have f1 := h.fz 1
 clear h
 by_cases hE : tkE p n = 0
 ·obtain ⟨m, rfl, hm32, hml, eV, eN⟩ := zzr9 (unpack ys) (p - tkN p n) hE
  rw [eV, eN, hE]
  have HE : Hid (tkE p m = 0) := hE
  clear eV eN hE
  have hm2 : p - m + m <= 8 * ys.length := by omega
  have em : ((p - m : Nat) : Int) = (p : Int) - m := by omega
  have EM : Hid (((p - m : Nat) : Int) = (p : Int) - m) := em
  have HW : ∀ q, Hid (Bk ((w.setCell ⟨b, 1, none⟩ (.int .i64 ((p : Int) - m))).drewN q) b rv ys (p - m)) := by
   intro q
   have := (H.out.move (p - m) (by omega)).tch (Tch.of_drewN (fun _ => False) _ q) (fun e => e) (fun _ _ e => e)
   rw [EM.out] at this
   exact this
  clear em
  go_enter Tryz.func160, Tryz.ntmps160
  go_wp2_with fail
  refine (zcc9 _ p _).mono ?_
  rintro e w2 ⟨rfl, rfl⟩
  rw [HE.out]
  go_wp2_with fail
  have c0' : (w2.setCell ⟨b, 1, none⟩ (.int .i64 ((p : Int) - m))).cell? ⟨b, 0, none⟩ = some rv := by simpa using (HW 0).out.c0
  go_quiet ((go_at_call 156; rw [<- EM.out]; exact Calls.quiet_of_same (zlo9 rv (p - m) m ys _ (by rw [EM.out]; exact (HW _).out.own.rd) H.out.bys (by omega) hm2 hm32)))
  go_wp2_with fail
  go_ret2
  refine ⟨rfl, (HW _).out, ?_⟩
  exact (Tch.setCell (Tch.refl (fun k => k = b) w2) (p := ⟨b, 1, none⟩) (fun _ => rfl) _).trans (S' := fun k => k = b) (Tch.of_drewN _ _ _) (fun _ _ e => e)
 ·obtain ⟨e1, e2⟩ := tk_bad (unpack ys) (p - tkN p n) hE
  rw [e1, e2]
  obtain ⟨E, hEE⟩ : ∃ E, tkE p n = E := ⟨_, rfl⟩
  rw [hEE] at hE ⊢
  have HE : Hid (tkE p n = E) := hEE
  have hne : (E != 0) = true := by simpa using hE
  clear e1 e2 hE hEE
  go_enter Tryz.func160, Tryz.ntmps160
  go_wp2_with fail
  refine (zcc9 _ p _).mono ?_
  rintro e w2 ⟨rfl, rfl⟩
  rw [HE.out]
  go_wp2_with fail
  go_ret2
  exact ⟨rfl, H.out, Tch.refl _ _⟩
theorem zeu9 (a : Option Addr) (cap : Nat) (w : World) :
  Calls Tryz.prog 151 #[.slice a 0 cap] w fun e w' => e = .returned (.tuple #[.pointer none, .int .i64 3]) /\ w' = w := by
 go_enter Tryz.func151, Tryz.ntmps151
 go_wp2_with fail
 go_ret2
 exact ⟨rfl, rfl⟩
theorem zme9 (b o cap : Nat) (ys : List Int) (w : World) (hl : 0 < ys.length) (h63 : ys.length <= 9223372036854775807) (h0 : ys.getD (ys.length - 1) 0 = 0)
  (hc : ∀ i, i < ys.length -> w.cell? ⟨b, o + i, none⟩ = some (.int .u8 (ys.getD i 0))) :
  Calls Tryz.prog 151 #[.slice (some ⟨b, o, none⟩) ys.length cap] w fun e w' => e = .returned (.tuple #[.pointer none, .int .i64 3]) /\ w' = w := by
 have c : w.cell? ⟨b, o + (ys.length - 1), none⟩ = some (.int .u8 0) := by rw [hc _ (by omega), h0]
 clear hc h0
 go_enter Tryz.func151, Tryz.ntmps151
 go_wp2_with fail
 go_ret2
 exact ⟨rfl, rfl⟩
theorem zoj9 (b o cap : Nat) (ys : List Int) (w : World) (hrd : Rd .u8 w (.slice (some ⟨b, o, none⟩) ys.length cap) ys) (hy : By ys) (hm : zgb9 ys) (hl : ys.length <= 140737488355328)
  (hc : ∀ i, i < ys.length -> w.cell? ⟨b, o + i, none⟩ = some (.int .u8 (ys.getD i 0))) :
  Calls Tryz.prog 151 #[.slice (some ⟨b, o, none⟩) ys.length cap] w fun e w' => ∃ b' rv, e = .returned (.tuple #[.pointer (some ⟨b', 0, none⟩), .int .i64 0]) /\ Bk w' b' rv ys (markAt ys) ∧
   Below w.heap.size w w' /\ w.heap.size <= b' /\ ∀ k, rv.ownBlock = some k -> w.heap.size <= k := by
 have HR : Hid (Rd .u8 w (.slice (some ⟨b, o, none⟩) ys.length cap) ys) := hrd
 have HY : Hid (By ys) := hy
 have hml := (zyp9 hy hm).1
 have HM : Hid (markAt ys < 8 * ys.length) := hml
 have hl0 := hm.1
 obtain ⟨y, hye⟩ : ∃ y, Hid (ys.getD (ys.length - 1) 0 = y) := ⟨_, rfl⟩
 have hyb : 0 <= y /\ y <= 255 := by rw [<- hye.out]; exact hy _
 have hne : (y == 0) = false := by have := hm.2; rw [hye.out] at this; simpa using this
 have hL : 1 <= Lib.bitLen y.toNat /\ Lib.bitLen y.toNat <= 8 := by
  have := zit9 ⟨y.toNat, by omega⟩ (by have := hm.2; rw [hye.out] at this; simp; omega)
  exact ⟨this.1, this.2.1⟩
 have HMK : Hid (((markAt ys : Nat) : Int) = 8 * ((ys.length : Int) - 1) + (Lib.bitLen y.toNat : Int) - 1) := by
  show _ = _
  unfold markAt
  rw [hye.out]
  omega
 have c : w.cell? ⟨b, o + (ys.length - 1), none⟩ = some (.int .u8 y) := by rw [hc _ (by omega), hye.out]
 have HL8 : Hid (∀ w : World, Calls Tryz.prog 159 #[.int .u8 y] w fun e w' => e = .returned (.int .i64 ((Lib.bitLen y.toNat : Nat) : Int)) /\ w' = w) := fun w => zxi9 y w hyb.1 hyb.2
 clear hrd hy hm hml hc
 generalize Lib.bitLen y.toNat = t at *
 go_enter Tryz.func151, Tryz.ntmps151
 go_wp2_with fail
 refine (HL8.out _).mono ?_
 rintro e w ⟨rfl, rfl⟩
 go_wp2_with fail
 refine (zde9 _ ys _ HR.out hl).mono ?_
 rintro e w1 ⟨v1, rfl, ho, hg⟩
 obtain ⟨b1, f1⟩ := hg.below
 have HO : Hid (Owns .u8 5 w1 v1 ys) := ho
 have B1 : Hid (Below w.heap.size w w1) := b1
 have F1 : Hid (∀ k, v1.ownBlock = some k -> w.heap.size <= k) := f1
 clear ho hg b1 f1
 obtain ⟨a, cap', hv⟩ : ∃ a cap, v1 = .slice a ys.length cap := by obtain ⟨a, cap, e, _⟩ := HO.out.rd; exact ⟨a, cap, e⟩
 subst hv
 go_wp2_with fail
 go_ret2
 refine ⟨w1.heap.size, _, rfl, ⟨?_, HO.out.below ((Below.refl _ _).alloc (Nat.le_refl _) _), HY.out, Nat.le_of_lt HM.out, hl⟩, B1.out.alloc B1.out.size _, B1.out.size, F1.out⟩
 rw [HMK.out]
 exact heap_alloc_new w1 _
theorem zpl9 (v : Value) (ys : List Int) (w : World) (h : Rd .u8 w v ys) (hy : By ys) (hl : ys.length <= 140737488355328) :
  Calls Tryz.prog 151 #[v] w fun e w' => (zgb9 ys /\ ∃ b rv, e = .returned (.tuple #[.pointer (some ⟨b, 0, none⟩), .int .i64 0]) /\ Bk w' b rv ys (markAt ys) /\ Below w.heap.size w w' /\ w.heap.size <= b /\ ∀ k, rv.ownBlock = some k -> w.heap.size <= k) ∨
   (¬ zgb9 ys /\ e = .returned (.tuple #[.pointer none, .int .i64 3]) /\ w' = w) := by
 have h0 := h
 obtain ⟨a, cap, rfl, _, hm, _, h⟩ := h
 unfold maxLen at hm
 rcases h with rfl | ⟨b, o, rfl, hc⟩
 ·refine (zeu9 a cap w).mono ?_
  rintro e w' ⟨rfl, rfl⟩
  exact .inr ⟨fun h => by have := h.1; simp at this, rfl, rfl⟩
 ·by_cases hl0 : 0 < ys.length
  ·by_cases h00 : ys.getD (ys.length - 1) 0 = 0
   ·refine (zme9 b o cap ys w hl0 (by omega) h00 hc).mono ?_
    rintro e w' ⟨rfl, rfl⟩
    exact .inr ⟨fun h => h.2 h00, rfl, rfl⟩
   ·refine (zoj9 b o cap ys w h0 hy ⟨hl0, h00⟩ hl hc).mono ?_
    rintro e w' h
    exact .inl ⟨⟨hl0, h00⟩, h⟩
  ·obtain rfl : ys = [] := List.eq_nil_of_length_eq_zero (by omega)
   refine (zeu9 _ cap w).mono ?_
   rintro e w' ⟨rfl, rfl⟩
   exact .inr ⟨fun h => by have := h.1; simp at this, rfl, rfl⟩
theorem zxe9 {k : IntKind} {e : TypeId} {w : World} {v : Value} {xs : List Int} (h : Owns k e w v xs) : ∃ a cap, v = .slice a xs.length cap := by
 obtain ⟨a, cap, e, _⟩ := h.rd
 exact ⟨a, cap, e⟩
theorem zxj9 (W : World) (c : Nat) (x y v : Value) (bs : List Int) (hblk : W.heap[c]? = some (.cells #[x, y] 154 (0, 0))) (ho : Owns .u8 5 W v (pack bs)) (hb : Bits bs) (hne : v.ownBlock ≠ some c) :
  Wr ((W.setCell ⟨c, 0, none⟩ v).setCell ⟨c, 1, none⟩ (.int .i64 bs.length)) c v bs := by
 refine ⟨?_, ?_, hb⟩
 ·have h1 := heap_setCell_same W c 0 _ _ v hblk
  have h2 := heap_setCell_same _ c 1 _ _ (.int .i64 bs.length) h1
  rw [h2]
  simp
 ·exact ho.tch (S := fun k => k = c) (Tch.setCell (Tch.setCell (Tch.refl (fun k => k = c) W) (p := ⟨c, 0, none⟩) (fun _ => rfl) v) (p := ⟨c, 1, none⟩) (fun _ => rfl) _) (fun j hj e => hne (by rw [hj, e]))
set_option maxRecDepth 100000 in
theorem znb9 (b : Nat) (rv : Value) (bs : List Int) (w : World) (h : Wr w b rv bs) (hb : bs.length <= 1125899906841900) :
  Calls Tryz.prog 126 #[.pointer (some ⟨b, 0, none⟩)] w fun e w' => ∃ v', e = .returned v' /\ Owns .u8 5 w' v' (pack (bs ++ [1])) ∧
   Below w.heap.size w w' /\ ∀ k, v'.ownBlock = some k -> w.heap.size <= k := by
 have c0 := h.c0
 have d1 := h.c1
 have H : Hid (Wr w b rv bs) := h
 have hlt := h.lt
 have HRD : Hid (∀ W : World, Below w.heap.size w W -> Rd .u8 W rv (pack bs)) := fun W hW => (zeh9 h.own).below hW
 have HBB : Hid ((pack bs).length <= 140737488355328) := by show _ <= _; rw [zc9]; omega
 have n0 := World.new_ne w ⟨b, 0, none⟩ c0
 have n1 := World.new_ne w ⟨b, 1, none⟩ d1
 clear h
 go_enter Tryz.func126, Tryz.ntmps126
 go_wp2_with fail
 go_region_held3 (fun w' => w'.cell? ⟨b, 0, none⟩ = some rv /\ w'.cell? ⟨b, 1, none⟩ = some (.int .i64 bs.length)) (go_keep)
  ((go_at_call 46; refine (zde9 rv (pack bs) _ (by exact HRD.out _ (by repeat (first | exact Below.refl _ _ | apply Below.drew | exact Nat.le_refl _ | apply Below.alloc))) HBB.out).mono ?_; rintro e w1 ⟨v1, rfl, ho, hg⟩; obtain ⟨a1, c1, hv1⟩ := zxe9 ho; subst hv1; have k0 := hg.below.1.cell (p := ⟨b, 0, none⟩) (by simp; omega); have k1 := hg.below.1.cell (p := ⟨b, 1, none⟩) (by simp; omega); have k2 := fun (o : Nat) (h : w.heap.size < _) => hg.below.1.cell (p := ⟨w.heap.size, o, none⟩) h; have k3 := fun (o : Nat) (h : w.heap.size < _) => hg.below.1.frozen (p := ⟨w.heap.size, o, none⟩) h))
 ·have hbel := hg.below
  have HB1 : Hid (Below w.heap.size w w1) := ((Below.refl w.heap.size w).drew).trans hbel.1
  have HF1 : Hid (∀ k, (Value.slice a1 (pack bs).length c1).ownBlock = some k -> w.heap.size <= k) := hbel.2
  have HO1 : Hid (Owns .u8 5 w1 (Value.slice a1 (pack bs).length c1) (pack bs)) := ho
  clear hbel ho hg k0 k1 k2 k3 n0 n1 c0 d1
  go_wp2_with fail
  refine (zpc9 _ (Value.slice a1 (pack bs).length c1) 1 bs _ ?hw1 (by omega) (.inr rfl)).mono ?_
  case hw1 => exact ⟨heap_alloc_new w1 _, HO1.out.below ((Below.refl _ _).alloc (Nat.le_refl _) _), H.out.bits⟩
  rintro e w2 ⟨rfl, rv2, h2, h3, h4⟩
  have c0' := h2.c0
  have HR : Hid (Owns .u8 5 w2 rv2 (pack (bs ++ [1])) /\ Below w.heap.size w w2 /\ ∀ k, rv2.ownBlock = some k -> w.heap.size <= k) := by
   have hs := HB1.out.size
   refine ⟨h2.own, ?_, fun k hk => ?_⟩
   ·refine Below.trans (b := w1) HB1.out (Tch.below (S := fun k => k = w1.heap.size ∨ (Value.slice a1 (pack bs).length c1).ownBlock = some k) ?_ hs ?_)
    ·refine Tch.trans (S' := fun k => k = w1.heap.size ∨ (Value.slice a1 (pack bs).length c1).ownBlock = some k) ?_ h3 (fun _ _ e => e)
     exact (Tch.refl _ w1).alloc _
    ·rintro k (rfl | e)
     ·exact hs
     ·exact HF1.out k e
   ·rcases h4 k hk with e | e
    ·exact HF1.out k e
    ·simp at e; omega
  clear h2 h3 h4
  go_wp2_with fail
  go_ret
  exact ⟨rv2, rfl, HR.out⟩
 ·have hbel := hg.below
  have HB1 : Hid (Below w.heap.size w w1) := by
   have h1 : Below w.heap.size w (w.alloc (.cells #[Value.slice none 0 0, Value.int .i64 0] 154)).drew := ((Below.refl w.heap.size w).alloc (Nat.le_refl _) _).drew
   exact h1.trans (hbel.1.mono h1.size)
  have HF1 : Hid (∀ k, (Value.slice a1 (pack bs).length c1).ownBlock = some k -> w.heap.size + 1 <= k) := fun k hk => by have := hbel.2 k hk; simpa using this
  have HO1 : Hid (Owns .u8 5 w1 (Value.slice a1 (pack bs).length c1) (pack bs)) := ho
  have HK1 : Hid (w1.heap[w.heap.size]? = some (.cells #[Value.slice none 0 0, Value.int .i64 0] 154 (0, 0))) := by
   have := hbel.1.block w.heap.size (by simp)
   rw [this]
   exact heap_alloc_new w _
  clear hbel ho hg k0 k1 k2 k3 n0 n1 c0 d1
  go_wp2_with fail
  refine (zpc9 _ (Value.slice a1 (pack bs).length c1) 1 bs _ ?hw2 (by omega) (.inr rfl)).mono ?_
  case hw2 =>
   refine zxj9 _ _ _ _ _ bs HK1.out HO1.out H.out.bits (fun e => ?_)
   have := HF1.out _ e
   omega
  rintro e w2 ⟨rfl, rv2, h2, h3, h4⟩
  have c0' := h2.c0
  have HR : Hid (Owns .u8 5 w2 rv2 (pack (bs ++ [1])) /\ Below w.heap.size w w2 /\ ∀ k, rv2.ownBlock = some k -> w.heap.size <= k) := by
   have hs := HB1.out.size
   refine ⟨h2.own, ?_, fun k hk => ?_⟩
   ·refine Below.trans (b := w1) HB1.out (Tch.below (S := fun k => k = w.heap.size ∨ (Value.slice a1 (pack bs).length c1).ownBlock = some k) ?_ hs ?_)
    ·refine Tch.trans (S' := fun k => k = w.heap.size ∨ (Value.slice a1 (pack bs).length c1).ownBlock = some k) ?_ h3 (fun _ _ e => e)
     exact Tch.setCell (Tch.setCell (Tch.refl _ w1) (fun _ => .inl rfl) _) (fun _ => .inl rfl) _
    ·rintro k (rfl | e)
     ·exact Nat.le_refl _
     ·have := HF1.out k e; omega
   ·rcases h4 k hk with e | e
    ·have := HF1.out k e; omega
    ·simp at e; omega
  clear h2 h3 h4
  go_wp2_with fail
  go_ret
  exact ⟨rv2, rfl, HR.out⟩
end Go.Proofs.YtobenjkacpipeaaGreat
