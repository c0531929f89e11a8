import Derived.Test.YtobenjkacpipeaaGreatPPkRep
import Derived.Test.YtobenjkacpipeaaGreatPNum
import Derived.Test.YtobenjkacpipeaaGreatPSPl
import Derived.Test.YtobenjkacpipeaaGreatPPkSrc
import Derived.Test.YtobenjkacpipeaaGreatPPkCut
import Derived.Test.YtobenjkacpipeaaGreatPHBestP
import Derived.Test.YtobenjkacpipeaaGreatPHCodes
import Derived.Test.YtobenjkacpipeaaGreatPFArr
set_option maxRecDepth 100000
set_option linter.unusedVariables false
set_option linter.unusedSimpArgs false
set_option maxHeartbeats 8000000
namespace Go.Proofs.YtobenjkacpipeaaGreat
open Go.RowKit Pl
structure Sk (w : World) (g : Nat) (ov : Value) (E : Int) (xs : List Int) : Prop where
 blk : w.heap[g]? = some (.cells #[ov, .int .i64 E] 31 (0, 0))
 own : Owns .u8 5 w ov xs
theorem Sk.c0 {w : World} {g : Nat} {ov : Value} {E : Int} {xs : List Int} (h : Sk w g ov E xs) : w.cell? ⟨g, 0, none⟩ = some ov := by rw [cell_of_row w g 0 _ _ (0, 0) h.blk]; rfl
theorem Sk.c1 {w : World} {g : Nat} {ov : Value} {E : Int} {xs : List Int} (h : Sk w g ov E xs) : w.cell? ⟨g, 1, none⟩ = some (.int .i64 E) := by rw [cell_of_row w g 1 _ _ (0, 0) h.blk]; rfl
theorem Sk.fz {w : World} {g : Nat} {ov : Value} {E : Int} {xs : List Int} (h : Sk w g ov E xs) (j : Nat) : w.frozen? ⟨g, j, none⟩ = false := frozen_of_row w g j _ _ h.blk
theorem Sk.lt {w : World} {g : Nat} {ov : Value} {E : Int} {xs : List Int} (h : Sk w g ov E xs) : g < w.heap.size := (Array.getElem?_eq_some_iff.1 h.blk).1
theorem Sk.tch {S : Nat -> Prop} {w w' : World} {g : Nat} {ov : Value} {E : Int} {xs : List Int} (h : Sk w g ov E xs) (ht : Tch S w w') (hg : ¬ S g) (ho : ∀ k, ov.ownBlock = some k -> ¬ S k) : Sk w' g ov E xs :=
 ⟨by rw [ht.block g h.lt hg]; exact h.blk, h.own.tch ht ho⟩
theorem Sk.below {w w' : World} {g : Nat} {ov : Value} {E : Int} {xs : List Int} (h : Sk w g ov E xs) (hb : Below w.heap.size w w') : Sk w' g ov E xs := h.tch (S := fun _ => False) (Tch.of_below hb) (fun e => e) (fun _ _ e => e)
theorem Sk.ne {w : World} {g : Nat} {ov : Value} {E : Int} {xs : List Int} (h : Sk w g ov E xs) : ov.ownBlock ≠ some g := by
 intro hg
 rcases h.own.2 with ⟨rfl, _⟩ | ⟨g', cap, cur, rfl, _, hgg, _⟩
 ·simp [Value.ownBlock] at hg
 ·simp only [Value.ownBlock, Option.some.injEq] at hg
  subst hg
  rw [h.blk] at hgg
  simp at hgg
structure SkTo (w : World) (g : Nat) (ov : Value) (w' : World) (ov' : Value) (E : Int) (xs : List Int) : Prop where
 sk : Sk w' g ov' E xs
 tch : Tch (fun k => k = g ∨ ov.ownBlock = some k) w w'
 fresh : ∀ k, ov'.ownBlock = some k -> ov.ownBlock = some k ∨ w.heap.size <= k
theorem SkTo.trans {w w1 w2 : World} {g : Nat} {ov ov1 ov2 : Value} {E1 E2 : Int} {xs1 xs2 : List Int} (h1 : SkTo w g ov w1 ov1 E1 xs1) (h2 : SkTo w1 g ov1 w2 ov2 E2 xs2) : SkTo w g ov w2 ov2 E2 xs2 := by
 refine ⟨h2.sk, h1.tch.trans h2.tch fun i hi e => ?_, fun k hk => ?_⟩
 ·rcases e with e | e
  ·exact .inl e
  ·rcases h1.fresh i e with e | e
   ·exact .inr e
   ·omega
 ·rcases h2.fresh k hk with e | e
  ·exact h1.fresh k e
  ·have := h1.tch.size; exact .inr (by omega)
theorem SkTo.pre {w w1 w2 : World} {g : Nat} {ov ov2 : Value} {E2 : Int} {xs2 : List Int} (hb : Below w.heap.size w w1) (h2 : SkTo w1 g ov w2 ov2 E2 xs2) : SkTo w g ov w2 ov2 E2 xs2 :=
 ⟨h2.sk, (Tch.of_below (S := fun k => k = g ∨ ov.ownBlock = some k) hb).trans h2.tch (fun i hi e => e), fun k hk => by
  rcases h2.fresh k hk with e | e
  ·exact .inl e
  ·have := hb.size; exact .inr (by omega)⟩
theorem SkTo.kept {w w' : World} {g : Nat} {ov : Value} {E : Int} {xs : List Int} (h : Sk w' g ov E xs) (ht : Tch (fun k => k = g) w w') : SkTo w g ov w' ov E xs := ⟨h, ht.mono (fun _ _ e => .inl e), fun k hk => .inl hk⟩
def keepE (E e : Int) : Int := if E = 0 then e else E
theorem zdr9 (g : Nat) (ov : Value) (E e0 : Int) (xs : List Int) (w : World) (h : Sk w g ov E xs) :
  Calls Tryz.prog 23 #[.pointer (some ⟨g, 0, none⟩), .int .i64 e0] w fun e w' => e = .returned (.tuple #[]) /\ Sk w' g ov (keepE E e0) xs /\ Tch (fun k => k = g) w w' := by
 have H : Hid (Sk w g ov E xs) := h
 have c1 := h.c1
 have f1 := h.fz 1
 clear h
 unfold keepE
 by_cases hE : E = 0
 ·have hEb : (E == 0) = true := by simp [hE]
  rw [if_pos hE]
  have HS : Hid (Sk (w.setCell ⟨g, 1, none⟩ (.int .i64 e0)) g ov e0 xs /\ Tch (fun k => k = g) w (w.setCell ⟨g, 1, none⟩ (.int .i64 e0))) := by
   have ht : Tch (fun k => k = g) w (w.setCell ⟨g, 1, none⟩ (.int .i64 e0)) := (Tch.refl (fun k => k = g) w).setCell (p := ⟨g, 1, none⟩) (fun _ => rfl) _
   refine ⟨⟨?_, H.out.own.tch ht (fun k hk e => H.out.ne (by rw [hk, e]))⟩, ht⟩
   rw [heap_setCell_same w g 1 _ _ (.int .i64 e0) H.out.blk]
   simp
  clear hE
  go_enter Tryz.func23, Tryz.ntmps23
  go_wp2
  go_end0
  exact ⟨rfl, HS.out⟩
 ·have hEb : (E == 0) = false := by simp [hE]
  rw [if_neg hE]
  clear hE
  go_enter Tryz.func23, Tryz.ntmps23
  go_wp2
  go_end0
  exact ⟨rfl, H.out, Tch.refl _ _⟩
theorem zaf9 (g : Nat) (ov : Value) (E e0 : Int) (xs : List Int) (v : Value) (ys : List Int) (w : World) (h : Sk w g ov E xs) (hr : Rd .u8 w v ys) (hv : v.ownBlock ≠ some g) (hl : xs.length + ys.length <= 140737488355328) :
  Calls Tryz.prog 10 #[.pointer (some ⟨g, 0, none⟩), v, .int .i64 e0] w fun e w' => e = .returned (.tuple #[]) /\ ∃ ov', SkTo w g ov w' ov' (keepE E e0) (xs ++ ys) := by
 have H : Hid (Sk w g ov E xs) := h
 have HR : Hid (Rd .u8 w v ys) := hr
 clear h hr
 go_enter Tryz.func10, Tryz.ntmps10
 go_wp2_with fail
 refine (zdr9 g ov E e0 xs w H.out).mono ?_
 rintro e w1 ⟨rfl, h1, ht1⟩
 have S1 : Hid (Sk w1 g ov (keepE E e0) xs) := h1
 have T1 : Hid (Tch (fun k => k = g) w w1) := ht1
 have R1 : Hid (Rd .u8 w1 v ys) := HR.out.tch ht1 (fun b hb e => hv (by rw [hb, e]))
 have c0 := h1.c0
 obtain ⟨KE, hKE⟩ : ∃ KE, Hid (keepE E e0 = KE) := ⟨_, rfl⟩
 rw [hKE.out] at S1
 clear h1 ht1 H HR
 go_wp2_with (at_builtin; refine zb9 _ rfl (.tmp 13) (.tmp 14) 22 rfl 5 .u8 1 elem8 _ xs rfl S1.out.own _ ys rfl R1.out (by omega) (by omega) ?_)
 intro v2 w2 ho2 hg2
 have hb2 : w2.heap[g]? = some (.cells #[ov, .int .i64 KE] 31 (0, 0)) := by rw [hg2.tch.block g S1.out.lt (fun e => S1.out.ne e)]; exact S1.out.blk
 have d0 : w2.cell? ⟨g, 0, none⟩ = some ov := by rw [cell_of_row w2 g 0 _ _ (0, 0) hb2]; rfl
 have f0 := frozen_of_row w2 g 0 _ _ hb2
 have HS : Hid (SkTo w g ov (w2.setCell ⟨g, 0, none⟩ v2) v2 KE (xs ++ ys)) := by
  have t2 : Tch (fun k => k = g) w2 (w2.setCell ⟨g, 0, none⟩ v2) := (Tch.refl (fun k => k = g) w2).setCell (p := ⟨g, 0, none⟩) (fun _ => rfl) _
  have hne : v2.ownBlock ≠ some g := fun e => by
   rcases hg2.fresh g e with e2 | e2
   ·exact S1.out.ne e2
   ·have := S1.out.lt; omega
  refine ⟨⟨?_, ho2.tch t2 (fun k hk e => hne (by rw [hk, e]))⟩, ((T1.out.mono (S' := fun k => k = g ∨ ov.ownBlock = some k) (fun _ _ e => .inl e)).trans hg2.tch (fun i hi e => .inr e)).trans t2 (fun i hi e => .inl e), fun k hk => ?_⟩
  ·rw [heap_setCell_same w2 g 0 _ _ v2 hb2]
   simp
  ·rcases hg2.fresh k hk with e | e
   ·exact .inl e
   ·have := T1.out.size; exact .inr (by omega)
 obtain ⟨a2, cap2, hv2, _⟩ := ho2.rd
 obtain ⟨L2, hL2⟩ : ∃ L2, Hid ((xs ++ ys).length = L2) := ⟨_, rfl⟩
 rw [hL2.out] at hv2
 clear ho2 hg2 hb2 S1 T1 R1 c0
 subst hv2
 go_wp2_with fail
 go_end0
 rw [hKE.out]
 exact ⟨rfl, _, HS.out⟩
theorem zcv9 (g : Nat) (ov : Value) (E : Int) (xs : List Int) (n : Nat) (w : World) (h : Sk w g ov E xs) (hn : n <= 4294967295) (hl : xs.length <= 140737488355000) :
  Calls Tryz.prog 9 #[.pointer (some ⟨g, 0, none⟩), .int .i64 (n : Int)] w fun e w' => e = .returned (.tuple #[]) /\ ∃ ov', SkTo w g ov w' ov' E (xs ++ digits n) := by
 have H : Hid (Sk w g ov E xs) := h
 have hd := ze9 (n : Int)
 clear h
 go_enter Tryz.func9, Tryz.ntmps9
 go_wp2_with fail
 refine (zld9 (.slice none 0 0) [] (n : Int) w (rd_nil _ _) (by simp) (by omega) (by omega)).mono ?_
 rintro e w1 ⟨v1, rfl, ho1, hg1⟩
 obtain ⟨hb1, hf1⟩ := hg1.below
 rw [List.nil_append] at ho1
 have S1 : Hid (Sk w1 g ov E xs) := H.out.below hb1
 have B1 : Hid (Below w.heap.size w w1) := hb1
 have O1 : Hid (Owns .u8 5 w1 v1 (digits (n : Int))) := ho1
 have hv1 : v1.ownBlock ≠ some g := fun e => by have := hf1 g e; have := H.out.lt; omega
 clear ho1 hg1 hb1 hf1 H
 go_wp2_with fail
 refine (zaf9 g ov E 0 xs v1 _ w1 S1.out O1.out.rd hv1 (by omega)).mono ?_
 rintro e w2 ⟨rfl, ov2, h2⟩
 have hk : keepE E 0 = E := by unfold keepE; split <;> omega
 rw [hk] at h2
 have HS : Hid (SkTo w g ov w2 ov2 E (xs ++ digits (n : Int))) := SkTo.pre B1.out h2
 clear h2 S1 B1 O1
 go_wp2_with fail
 go_end0
 exact ⟨rfl, _, HS.out⟩
theorem zdj9 (g : Nat) (ov : Value) (E e0 : Int) (xs : List Int) (v : Value) (ys : List Int) (w : World) (h : Sk w g ov E xs) (hr : Rd .u8 w v ys) (hv : v.ownBlock ≠ some g) (hv2 : ∀ k, v.ownBlock = some k -> ov.ownBlock ≠ some k) (hv3 : ∀ k, v.ownBlock = some k -> k < w.heap.size) (hl : xs.length <= 4294967295) (hl2 : ys.length <= 4294967295) :
  Calls Tryz.prog 55 #[.pointer (some ⟨g, 0, none⟩), v, .int .i64 e0] w fun e w' => e = .returned (.tuple #[]) /\ ∃ ov', SkTo w g ov w' ov' (keepE E e0) (xs ++ digits ys.length ++ ys) := by
 have H : Hid (Sk w g ov E xs) := h
 have HR : Hid (Rd .u8 w v ys) := hr
 have HV : Hid (∀ k, v.ownBlock = some k -> ov.ownBlock ≠ some k) := hv2
 have HV3 : Hid (∀ k, v.ownBlock = some k -> k < w.heap.size) := hv3
 have hd := ze9 (ys.length : Int)
 obtain ⟨va, vc, hva, _⟩ := hr
 clear h hv2 hv3
 subst hva
 go_enter Tryz.func55, Tryz.ntmps55
 go_wp2_with fail
 refine (zcv9 g ov E xs ys.length w H.out hl2 (by omega)).mono ?_
 rintro e w1 ⟨rfl, ov1, h1⟩
 have S1 : Hid (SkTo w g ov w1 ov1 E (xs ++ digits (ys.length : Int))) := h1
 have R1 : Hid (Rd .u8 w1 (.slice va ys.length vc) ys) := HR.out.tch h1.tch (fun b hb e => by rcases e with e | e; (· exact hv (by rw [hb, e])); (· exact HV.out b hb e))
 clear h1 H HR
 go_wp2_with fail
 refine (zaf9 g ov1 E e0 _ _ ys w1 S1.out.sk R1.out hv (by rw [List.length_append]; omega)).mono ?_
 rintro e w2 ⟨rfl, ov2, h2⟩
 have HS : Hid (SkTo w g ov w2 ov2 (keepE E e0) (xs ++ digits (ys.length : Int) ++ ys)) := S1.out.trans h2
 clear h2 S1 R1
 go_wp2_with fail
 go_end0
 exact ⟨rfl, _, HS.out⟩
def sumB (c : Nat) : List Int := [((c % 256 : Nat) : Int), ((c / 256 % 256 : Nat) : Int), ((c / 65536 % 256 : Nat) : Int), ((c / 16777216 % 256 : Nat) : Int)]
theorem zvd9 (c k : Nat) (hk : k < 4) : (sumB c).take (k + 1) = (sumB c).take k ++ [((c / 2 ^ (8 * k) % 256 : Nat) : Int)] := by
 match k, hk with
 | 0, _ => simp [sumB]
 | 1, _ => simp [sumB]
 | 2, _ => simp [sumB]
 | 3, _ => simp [sumB]
theorem zhk9 (g : Nat) (ov : Value) (E : Int) (xs : List Int) (v : Value) (ys : List Int) (w : World) (h : Sk w g ov E xs) (hr : Rd .u8 w v ys) (hy : By ys) (hl : xs.length <= 4294967295) :
  Calls Tryz.prog 15 #[.pointer (some ⟨g, 0, none⟩), v] w fun e w' => e = .returned (.tuple #[]) /\ ∃ ov', SkTo w g ov w' ov' E (xs ++ sumB (crc ys)) := by
 have H : Hid (Sk w g ov E xs) := h
 have HR : Hid (Rd .u8 w v ys) := hr
 have HY : Hid (By ys) := hy
 clear h hr hy
 have hcl : crc ys <= 4294967295 := by unfold crc; omega
 obtain ⟨c, hc⟩ : ∃ c, Hid (crc ys = c) := ⟨_, rfl⟩
 rw [hc.out] at hcl ⊢
 go_enter Tryz.func15, Tryz.ntmps15
 go_wp2_with fail
 refine (zvc9 v ys w HR.out HY.out).mono ?_
 rintro e w1 ⟨rfl, rfl⟩
 rw [hc.out]
 clear HR HY hc
 go_wp2_with fail
 go_loopw [8] (fun i wr => ∃ (k : Nat) (ov' : Value), k <= 4 /\ i = .int .i64 k /\ Hid (SkTo w1 g ov wr ov' E (xs ++ (sumB c).take k))) (fun i _ => 4 - (intOf i).toNat)
 case atStart => exact ⟨0, ov, by omega, rfl, by simpa [Hid] using (⟨H.out, Tch.refl _ _, fun k hk => .inl hk⟩ : SkTo w1 g ov w1 ov E xs)⟩
 case round =>
  obtain ⟨k, ov', hk, rfl, S⟩ := hrel
  by_cases hlt : k < 4
  ·have hki : (k : Int) < 4 := by omega
   obtain ⟨b, hb⟩ : ∃ b : Nat, Hid (c / 2 ^ (8 * k) % 256 = b) := ⟨_, rfl⟩
   have hsh : (c : Int) / 2 ^ (8 * k) % 256 = (b : Int) := by rw [<- hb.out]; push_cast; rfl
   have HTK : Hid ((sumB c).take (k + 1) = (sumB c).take k ++ [(b : Int)]) := by show _ = _; rw [zvd9 c k hlt, hb.out]
   have hlen : (xs ++ (sumB c).take k).length <= 4294967299 := by rw [List.length_append, List.length_take]; simp [sumB]; omega
   obtain ⟨zs, hzs⟩ : ∃ zs, Hid (xs ++ (sumB c).take k = zs) := ⟨_, rfl⟩
   rw [hzs.out] at hlen S
   have c0 := S.out.sk.c0
   have hgl := S.out.sk.lt
   have HO : Hid (Owns .u8 5 wr ov' zs) := S.out.sk.own
   have HK1 : Hid (zs.length + 1 <= maxLen) := by show _ <= _; unfold maxLen; omega
   have HK2 : Hid ((zs.length + 1) * 1 <= 140737488355328) := by show _ <= _; omega
   have hmul : IntKind.i64.wrap (8 * (k : Int)) = 8 * (k : Int) := zi9 _ (by omega) (by omega)
   have hk0 : (0 : Int) <= 8 * (k : Int) := by omega
   have f0 := S.out.sk.fz 0
   have HBK : Hid (∀ W, Below wr.heap.size wr W -> W.heap[g]? = some (.cells #[ov', .int .i64 E] 31 (0, 0)) /\ Owns .u8 5 W ov' zs) := fun W hW => ⟨by rw [hW.block g hgl]; exact S.out.sk.blk, HO.out.below hW⟩
   go_wp2_with fail
   have hsh2 : IntKind.u8.wrap ((c : Int) / 2 ^ (8 * (k : Int)).toNat) = (b : Int) := by
    rw [show (8 * (k : Int)).toNat = 8 * k by omega, IntKind.wrap_u8']
    exact hsh
   have HFN : Hid (∀ (W v5 w5 : _), Below wr.heap.size wr W -> Owns .u8 5 w5 v5 (zs ++ [(b : Int)]) -> Grew W w5 ov' v5 -> w5.cell? ⟨g, 0, none⟩ = some ov' /\ w5.frozen? ⟨g, 0, none⟩ = false /\ ∃ a L cp, v5 = .slice a L cp /\ Hid (SkTo w1 g ov (w5.setCell ⟨g, 0, none⟩ (.slice a L cp)) (.slice a L cp) E (xs ++ (sumB c).take (k + 1)))) := fun W v5 w5 hW ho hg => by
    obtain ⟨hb, hO⟩ := HBK.out W hW
    have hne : ov'.ownBlock ≠ some g := S.out.sk.ne
    have hgW : g < W.heap.size := by have := hW.size; omega
    have hb2 : w5.heap[g]? = some (.cells #[ov', .int .i64 E] 31 (0, 0)) := by rw [hg.tch.block g hgW (fun e => hne e)]; exact hb
    obtain ⟨a, cp, hv, _⟩ := ho.rd
    refine ⟨by rw [cell_of_row w5 g 0 _ _ (0, 0) hb2]; rfl, frozen_of_row w5 g 0 _ _ hb2, a, _, cp, hv, ?_⟩
    show SkTo _ _ _ _ _ _ _
    rw [<- hv]
    have t2 : Tch (fun k => k = g) w5 (w5.setCell ⟨g, 0, none⟩ v5) := (Tch.refl (fun k => k = g) w5).setCell (p := ⟨g, 0, none⟩) (fun _ => rfl) _
    have hne5 : v5.ownBlock ≠ some g := fun e => by
     rcases hg.fresh g e with e2 | e2
     ·exact hne e2
     ·omega
    have hst : SkTo wr g ov' (w5.setCell ⟨g, 0, none⟩ v5) v5 E (zs ++ [(b : Int)]) := by
     refine ⟨⟨?_, ho.tch t2 (fun k hk e => hne5 (by rw [hk, e]))⟩, ((Tch.of_below (S := fun k => k = g ∨ ov'.ownBlock = some k) hW).trans hg.tch (fun i hi e => .inr e)).trans t2 (fun i hi e => .inl e), fun k hk => ?_⟩
     ·rw [heap_setCell_same w5 g 0 _ _ v5 hb2]
      simp
     ·rcases hg.fresh k hk with e | e
      ·exact .inl e
      ·have := hW.size; exact .inr (by omega)
    have hfin := S.out.trans hst
    rw [<- hzs.out, List.append_assoc, <- HTK.out] at hfin
    exact hfin
   go_region_law (refine zti9 rfl (.tmp 15) (.tmp 21) 22 rfl 5 .u8 1 elem8 ov' zs ?h1 ?h2 (b : Int) wr.heap.size ?h3 ?h4 HK1.out HK2.out ?_; (case h1 => kernel_rfl); (case h2 => exact (HBK.out _ (by repeat (first | exact Below.refl _ _ | apply Below.drew | refine Below.alloc ?_ (by first | exact Nat.le_refl _ | simp) _))).2); (case h3 => kernel_rfl); (case h4 => first | (simp; done) | (simp; exact hsh2)); intro v5 w5 ho5 hg5 hp5; obtain ⟨d0, e0, a5, L5, cp5, rfl, H5⟩ := HFN.out _ v5 w5 (by repeat (first | exact Below.refl _ _ | apply Below.drew | refine Below.alloc ?_ (by first | exact Nat.le_refl _ | simp) _)) ho5 hg5; clear ho5 hg5 hp5)
   try simp only [List.getElem_toArray, List.getElem_cons_succ, List.getElem_cons_zero, Act.put, List.setIfInBounds_toArray, List.set_cons_zero, List.set_cons_succ]
   go_wp2_with fail
   go_roundw
   case rel => exact ⟨k + 1, _, by omega, by go_num, H5⟩
   case measure => simp [intOf]; omega
   all_goals exact ⟨⟨k + 1, _, by omega, by go_num, H5⟩, by simp [intOf]; omega⟩
  ·obtain rfl : k = 4 := by omega
   have HS : Hid (SkTo w1 g ov wr ov' E (xs ++ sumB c)) := by have := S.out; rw [show (sumB c).take 4 = sumB c from rfl] at this; exact this
   go_wp2_with fail
   go_end0
   exact ⟨rfl, _, HS.out⟩
end Go.Proofs.YtobenjkacpipeaaGreat
namespace Go.Proofs.YtobenjkacpipeaaGreat
open Go.RowKit Pl Hf
def ctN (ls : List Int) : Nat -> Nat -> Int
 | 0, _ => 0
 | k + 1, c => ctN ls k c + if ls.getD k 0 = (c : Int) then 1 else 0
def cts (ls : List Int) : List Int := (List.range 256).map (ctN ls ls.length)
theorem ctN_bd (ls : List Int) (k c : Nat) : 0 <= ctN ls k c /\ ctN ls k c <= k := by
 induction k with
 | zero => simp [ctN]
 | succ k ih => simp only [ctN]; split <;> omega
theorem zvn9 (ls : List Int) {j k : Nat} (h : j <= k) (c : Nat) : ctN ls j c <= ctN ls k c := by
 induction k with
 | zero => obtain rfl : j = 0 := by omega
           exact Int.le_refl _
 | succ k ih =>
  by_cases e : j = k + 1
  ·rw [e]; exact Int.le_refl _
  ·have := ih (by omega)
   simp only [ctN]
   split <;> omega
theorem zil9 (ls : List Int) (i : Nat) (hi : i < ls.length) (c : Nat) (h : ls.getD i 0 = (c : Int)) : 0 < ctN ls ls.length c := by
 have h1 := zvn9 ls (show i + 1 <= ls.length by omega) c
 have h2 := (ctN_bd ls i c).1
 simp only [ctN] at h1
 rw [if_pos h] at h1
 omega
theorem zbz9 (ls : List Int) : (cts ls).length = 256 := by simp [cts]
theorem zgp9 (ls : List Int) (c : Nat) (hc : c < 256) : (cts ls).getD c 0 = ctN ls ls.length c := by simp [cts, List.getD_eq_getElem?_getD, hc]
theorem cts_ok {ls : List Int} (hy : By ls) (h1 : 1 <= ls.length) (h2 : ls.length <= 65536) : OkC (cts ls) := by
 refine ⟨by rw [zbz9]; exact Nat.le_refl _, fun i hi => ?_, ?_⟩
 ·rw [zbz9] at hi
  rw [zgp9 ls i hi]
  have := ctN_bd ls ls.length i
  omega
 ·obtain ⟨c, hc⟩ := Int.eq_ofNat_of_zero_le (hy 0).1
  have hb := (hy 0).2
  have hp := zil9 ls 0 (by omega) c hc
  have hg := st_get (cts ls) (b := c) (k := (cts ls).length) (by rw [zbz9]; omega) (by rw [zgp9 ls c (by omega)]; exact hp)
  have := hg.1
  omega
def Cdd (ls cb : List Int) : Prop :=
 ∃ ds, ShS (wt (cts ls) (cts ls).length) ds /\ mayC (lens (cts ls) ds) = true /\ (∀ i, i < ls.length -> 0 < (lens (cts ls) ds).getD (ls.getD i 0).toNat 0) ∧
  cb = pack (ptBits (lens (cts ls) ds)) ++ digits (pack (enc (lens (cts ls) ds) ls)).length ++ pack (enc (lens (cts ls) ds) ls)
theorem zxa9 : (Tryz.prog.info? 112).map (fun i => (i.zero, i.size)) = some (some (.agg (ics 256 (fun _ => 0)).toArray), 256) := by kernel_rfl
theorem zto9 (g : Nat) (w : World) : (Instr.sliceAt 112 (.pointer (some ⟨g, 0, none⟩)) none none none).run Tryz.prog w = .ok (.slice (some ⟨g, 0, none⟩) 256 256) w := by
 have hL : Tryz.prog.arrayLen 112 = 256 := by kernel_rfl
 have hE : Tryz.prog.elem 112 = 3 := by kernel_rfl
 have ht : Tryz.prog.underlying 112 = some (.array (Tryz.prog.arrayLen 112) (Tryz.prog.elem 112)) := by rw [hL, hE]; exact Tryz.underlying112
 rw [run_sliceAt_array_all w 112 _ ht, hL, hE]
 simp [slicedAt, go_sem]
theorem Iv.rdList {w : World} {g : Nat} {t : TypeId} {n : Nat} {c : Nat -> Int} (h : Iv w g t n c) (hn : n <= 4096) : Rd .i64 w (.slice (some ⟨g, 0, none⟩) n n) ((List.range n).map c) := by
 refine ⟨_, n, by simp, by simp, by unfold maxLen; omega, (fun e => by cases e), .inr ⟨g, 0, rfl, fun i hi => ?_⟩⟩
 have hi' : i < n := by simpa using hi
 rw [Nat.zero_add, h.at_ i hi']
 simp [List.getD_eq_getElem?_getD, hi']
structure Cs (w W : World) (g C : Nat) (ls : List Int) (k : Nat) : Prop where
 sk : Sk W g (.slice none 0 0) 0 []
 iv : Iv W C 112 256 (ctN ls k)
 bel : Below w.heap.size w W
 gn : w.heap.size <= g
 cn : w.heap.size <= C
 ne : g ≠ C
theorem zqj9 (v : Value) (ls : List Int) (w : World) (hr : Rd .u8 w v ls) (hy : By ls) (h1 : 1 <= ls.length) (h2 : ls.length <= 65536) (hold : ∀ k, v.ownBlock = some k -> k < w.heap.size) :
  Calls Tryz.prog 52 #[v] w fun e w' => ∃ g ov cb, e = .returned (.pointer (some ⟨g, 0, none⟩)) /\ Sk w' g ov 0 cb /\ Cdd ls cb /\ cb.length <= 200000 /\ Below w.heap.size w w' /\ w.heap.size <= g /\ ∀ k, ov.ownBlock = some k -> w.heap.size <= k := by
 have HR : Hid (Rd .u8 w v ls) := hr
 have HY : Hid (By ls) := hy
 have HOLD : Hid (∀ k, v.ownBlock = some k -> k < w.heap.size) := hold
 obtain ⟨a, cap, rfl, hlc, hcm, hnil, hcc⟩ := hr
 have HC : Hid (∃ b o, a = some ⟨b, o, none⟩ /\ ∀ i, i < ls.length -> w.cell? ⟨b, o + i, none⟩ = some (.int .u8 (ls.getD i 0))) := by
  rcases hcc with h | h
  ·rw [h] at h1; simp at h1
  ·exact h
 obtain ⟨ab, ao, rfl, hcell⟩ := HC.out
 have HCELL : Hid (∀ i, i < ls.length -> w.cell? ⟨ab, ao + i, none⟩ = some (.int .u8 (ls.getD i 0))) := hcell
 clear hcc hnil HC hy hold hcell
 obtain ⟨hvN, hiN⟩ := zero_of_info zxa9
 obtain ⟨ZN, hZN⟩ : ∃ Z, Hid ((ics 256 (fun _ => 0)).toArray = Z) := ⟨_, rfl⟩
 rw [hZN.out] at hvN
 have hsl := fun (g : Nat) (w : World) => zto9 g w
 go_enter Tryz.func52, Tryz.ntmps52
 go_wp2_with fail
 obtain ⟨W0, hW0⟩ : ∃ W0, Hid ((w.alloc (.cells #[.slice none 0 0, .int .i64 0] 31)).alloc (.cells ZN 112) = W0) := ⟨_, rfl⟩
 rw [hW0.out]
 obtain ⟨C, hC⟩ : ∃ C, Hid (w.heap.size + 1 = C) := ⟨_, rfl⟩
 rw [hC.out]
 obtain ⟨g, hg⟩ : ∃ g, w.heap.size = g := ⟨_, rfl⟩
 have HG : Hid (w.heap.size = g) := hg
 rw [hg]
 have C0 : Hid (Cs w W0 g C ls 0) := by
  have hb : Below w.heap.size w W0 := by rw [<- hW0.out]; exact ((Below.refl _ _).alloc (Nat.le_refl _) _).alloc (by simp only [World.size_alloc]; omega) _
  refine ⟨⟨?_, zf9 _ _ _⟩, ?_, hb, by omega, by have := hC.out; omega, by have := hC.out; omega⟩
  ·rw [<- hW0.out, Below.heap_alloc _ _ _ (by simp only [World.size_alloc]; omega), <- hg]
   exact heap_alloc_new w _
  ·unfold Iv
   rw [<- hW0.out, <- hC.out]
   have := heap_alloc_new (w.alloc (.cells #[.slice none 0 0, .int .i64 0] 31)) (.cells ZN 112)
   rw [World.size_alloc] at this
   rw [this, <- hZN.out]
   rfl
 clear hW0 hg hvN hiN hZN
 go_loopw [11] (fun i wr => ∃ k : Nat, k <= ls.length /\ i = .int .i64 k /\ Hid (Cs w wr g C ls k)) (fun i _ => ls.length - (intOf i).toNat)
 case atStart => exact ⟨0, Nat.zero_le _, rfl, C0⟩
 case round =>
  clear C0
  obtain ⟨k, hk, rfl, S⟩ := hrel
  by_cases hlt : k < ls.length
  ·obtain ⟨c, hc⟩ := Int.eq_ofNat_of_zero_le (HY.out k).1
   have HCX : Hid (ls.getD k 0 = (c : Int)) := hc
   have hc255 := (HY.out k).2
   rw [hc] at hc255
   have hx : wr.cell? ⟨ab, ao + k, none⟩ = some (.int .u8 (c : Int)) := by
    have h0 := HCELL.out k hlt
    rw [S.out.bel.cell (p := ⟨ab, ao + k, none⟩) (World.block_lt_of_cell? w ⟨ab, ao + k, none⟩ h0), h0, hc]
   have hcn := S.out.iv.at_ c (by omega)
   have hfn := S.out.iv.fz c
   have hbd := ctN_bd ls k c
   obtain ⟨y, hye⟩ : ∃ y, Hid (ctN ls k c = y) := ⟨_, rfl⟩
   rw [hye.out] at hcn hbd
   have S2 : Hid (Cs w (wr.setCell ⟨C, c, none⟩ (.int .i64 (y + 1))) g C ls (k + 1)) := by
    have ht : Tch (fun k => k = C) wr (wr.setCell ⟨C, c, none⟩ (.int .i64 (y + 1))) := (Tch.refl (fun k => k = C) wr).setCell (p := ⟨C, c, none⟩) (fun _ => rfl) _
    refine ⟨S.out.sk.tch ht (fun e => S.out.ne e) (fun k hk => by cases hk), (S.out.iv.set c (by omega) (y + 1)).congr (fun i hi => ?_), S.out.bel.trans (ht.below S.out.bel.size (fun k e => by rw [e]; exact S.out.cn)), S.out.gn, S.out.cn, S.out.ne⟩
    unfold upd
    simp only [ctN]
    rw [HCX.out]
    by_cases e : i = c
    ·subst e
     rw [if_pos rfl, if_pos rfl, hye.out]
    ·rw [if_neg e, if_neg (by omega)]
     omega
   have hi0 : (0 : Int) <= (c : Int) := by omega
   have hi1 : (c : Int) < 256 := by omega
   clear hc S
   go_wp2_with fail
   go_roundw
   case rel => exact ⟨k + 1, by omega, by go_num, S2⟩
   case measure => simp [intOf]; omega
  ·obtain rfl : k = ls.length := by omega
   have HIR : Hid (Rd .i64 wr (.slice (some ⟨C, 0, none⟩) 256 256) (cts ls)) := S.out.iv.rdList (by omega)
   have S1 : Hid (Sk wr g (.slice none 0 0) 0 []) := S.out.sk
   have B1 : Hid (Below w.heap.size w wr) := S.out.bel
   have HGN : Hid (w.heap.size <= g) := S.out.gn
   clear S
   go_wp2_with fail
   refine (zmg9 _ (cts ls) wr HIR.out).mono ?_
   rintro e w2 ⟨lv, E, rfl, hb2, hf2, hcase⟩
   rcases hcase with ⟨_, _, hbad⟩ | ⟨rfl, hok, ds, hol, hsh⟩
   ·exact absurd (cts_ok HY.out h1 h2) hbad
   have HM : Hid (mayC (lens (cts ls) ds) = true) := zcm9 (zko9 hok hsh)
   have HPOS : Hid (∀ i, i < ls.length -> 0 < (lens (cts ls) ds).getD (ls.getD i 0).toNat 0) := fun i hi => by
    obtain ⟨c, hc⟩ := Int.eq_ofNat_of_zero_le (HY.out i).1
    have hb := (HY.out i).2
    have hp := zil9 ls i hi c hc
    rw [hc, Int.toNat_natCast]
    have hcp : 0 < (cts ls).getD c 0 := by rw [zgp9 ls c (by omega)]; exact hp
    exact (zhl9 hok hsh c (last_of' (by rw [zbz9]; omega) hcp)).2 hcp
   have HSH : Hid (ShS (wt (cts ls) (cts ls).length) ds) := hsh
   obtain ⟨ll, hll⟩ : ∃ ll, Hid (lens (cts ls) ds = ll) := ⟨_, rfl⟩
   rw [hll.out] at hol HM HPOS
   have O2 : Hid (Owns .i64 3 w2 lv ll) := hol
   have S2 : Hid (Sk w2 g (.slice none 0 0) 0 []) := S1.out.below hb2
   have B2 : Hid (Below w.heap.size w w2) := B1.out.trans (hb2.mono B1.out.size)
   have NL : Hid (∀ k, lv.ownBlock = some k -> k ≠ g /\ w.heap.size <= k) := fun k hk => by have := hf2 k hk; have := S1.out.lt; have := B1.out.size; omega
   clear hb2 hf2 hok hol hsh S1 B1 HIR
   go_wp2_with fail
   refine (zdr9 g _ 0 0 [] w2 S2.out).mono ?_
   rintro e w3 ⟨rfl, hs3, ht3⟩
   have S3 : Hid (Sk w3 g (.slice none 0 0) 0 []) := hs3
   have O3 : Hid (Owns .i64 3 w3 lv ll) := O2.out.tch ht3 (fun k hk e => (NL.out k hk).1 e)
   have B3 : Hid (Below w.heap.size w w3) := B2.out.trans (ht3.below B2.out.size (fun k e => by rw [e]; exact HGN.out))
   clear hs3 ht3 S2 O2 B2
   go_wp2_with fail
   refine (zkn9 lv ll w3 O3.out.rd O3.out.lt).mono ?_
   rintro e w4 ⟨tv, E4, rfl, hb4, hf4, hc4⟩
   rcases hc4 with ⟨_, _, hbad⟩ | ⟨rfl, _, hot⟩
   ·rw [HM.out] at hbad; cases hbad
   have S4 : Hid (Sk w4 g (.slice none 0 0) 0 []) := S3.out.below hb4
   have O4 : Hid (Owns .i64 3 w4 lv ll) := O3.out.below hb4
   have T4 : Hid (Owns .u8 5 w4 tv (pack (ptBits ll))) := hot
   have B4 : Hid (Below w.heap.size w w4) := B3.out.trans (hb4.mono B3.out.size)
   have htg : tv.ownBlock ≠ some g := fun e => by have := hf4 g e; have := S3.out.lt; omega
   have HPL : Hid ((pack (ptBits ll)).length <= 600) := by
    show _ <= _
    rw [zc9]
    have h1 := zcz9 ll
    have h2 : ll.length <= 256 := by have h3 := HM.out; unfold mayC at h3; rw [decide_eq_true_eq] at h3; exact h3.1
    omega
   clear hb4 hf4 hot S3 O3 B3
   go_wp2_with fail
   refine (zaf9 g _ 0 0 [] tv _ w4 S4.out T4.out.rd htg (by have := HPL.out; simp; omega)).mono ?_
   rintro e w5 ⟨rfl, ov5, h5⟩
   rw [List.nil_append, show keepE 0 0 = 0 from rfl] at h5
   have S5 : Hid (Sk w5 g ov5 0 (pack (ptBits ll))) := h5.sk
   have O5 : Hid (Owns .i64 3 w5 lv ll) := O4.out.tch h5.tch (fun k hk e => by rcases e with e | e; (· exact (NL.out k hk).1 e); (· cases e))
   have B5 : Hid (Below w.heap.size w w5) := B4.out.trans (h5.tch.below B4.out.size (fun k e => by rcases e with e | e; (· rw [e]; exact HGN.out); (· cases e)))
   have N5 : Hid (∀ k, ov5.ownBlock = some k -> w.heap.size <= k) := fun k hk => by
    rcases h5.fresh k hk with e | e
    ·cases e
    ·have := B4.out.size; omega
   have R5 : Hid (Rd .u8 w5 (.slice (some ⟨ab, ao, none⟩) ls.length cap) ls) := HR.out.below B5.out
   clear h5 S4 O4 T4 B4
   go_wp2_with fail
   refine (zqp9 lv _ ll ls w5 O5.out.rd R5.out HY.out (by omega)).mono ?_
   rintro e w6 ⟨ev, E6, rfl, hb6, hf6, hc6⟩
   rcases hc6 with ⟨_, _, hbad⟩ | ⟨rfl, _, _, hoe⟩
   ·exfalso
    rcases hbad with hb | ⟨i, hi, hb⟩
    ·rw [HM.out] at hb; cases hb
    ·have := HPOS.out i hi; omega
   have S6 : Hid (Sk w6 g ov5 0 (pack (ptBits ll))) := S5.out.below hb6
   have E6 : Hid (Owns .u8 5 w6 ev (pack (enc ll ls))) := hoe
   have B6 : Hid (Below w.heap.size w w6) := B5.out.trans (hb6.mono B5.out.size)
   have heg : ev.ownBlock ≠ some g := fun e => by have := hf6 g e; have := S5.out.lt; omega
   have HEO : Hid (∀ k, ev.ownBlock = some k -> ov5.ownBlock ≠ some k) := fun k hk e => by have := hf6 k hk; have := S5.out.own.lt k e; omega
   have HEL : Hid ((pack (enc ll ls)).length <= 100000) := by
    show _ <= _
    rw [zc9]
    have := enc_le (LOk.of HM.out) ls
    omega
   clear hb6 hf6 hoe S5 O5 B5 R5
   go_wp2_with fail
   refine (zdj9 g ov5 0 0 _ ev _ w6 S6.out E6.out.rd heg HEO.out E6.out.lt (by have := HPL.out; omega) (by have := HEL.out; omega)).mono ?_
   rintro e w7 ⟨rfl, ov7, h7⟩
   have S7 : Hid (Sk w7 g ov7 0 (pack (ptBits ll) ++ digits (pack (enc ll ls)).length ++ pack (enc ll ls))) := h7.sk
   have B7 : Hid (Below w.heap.size w w7) := B6.out.trans (h7.tch.below B6.out.size (fun k e => by rcases e with e | e; (· rw [e]; exact HGN.out); (· exact N5.out k e)))
   have N7 : Hid (∀ k, ov7.ownBlock = some k -> w.heap.size <= k) := fun k hk => by
    rcases h7.fresh k hk with e | e
    ·exact N5.out k e
    ·have := B6.out.size; omega
   clear h7 S6 E6 B6
   go_wp2_with fail
   go_ret
   refine ⟨g, ov7, _, rfl, S7.out, ⟨ds, HSH.out, by rw [hll.out]; exact HM.out, by rw [hll.out]; exact HPOS.out, by rw [hll.out]⟩, ?_, B7.out, HGN.out, N7.out⟩
   have hd := ze9 ((pack (enc ll ls)).length : Int)
   have h3 := HPL.out
   have h4 := HEL.out
   rw [List.length_append, List.length_append]
   omega
def LitR (ls bs : List Int) : Prop := ∃ cb, Cdd ls cb /\ bs = digits ls.length ++ (if cb.length < ls.length then [1] ++ cb else [0] ++ ls)
theorem zm9 (E : Int) : keepE E 0 = E := by unfold keepE; split <;> omega
theorem own1b (w : World) (a : Int) : Owns .u8 5 (w.alloc (.cells #[.int .u8 a] 5)) (.slice (some ⟨w.heap.size, 0, none⟩) 1 1) [a] :=
 World.ownsRow_lit w #[.int .u8 a] 1 (Nat.zero_le _) (by unfold maxLen; omega) rfl
theorem SkTo.post {w w1 w2 : World} {g : Nat} {ov ov1 : Value} {E : Int} {xs : List Int} (h : SkTo w g ov w1 ov1 E xs) (hb : Below w1.heap.size w1 w2) : SkTo w g ov w2 ov1 E xs :=
 ⟨h.sk.below hb, h.tch.trans (Tch.of_below (S := fun k => k = g ∨ ov.ownBlock = some k) hb) (fun i hi e => e), h.fresh⟩
theorem zfq9 (g : Nat) (ov : Value) (E : Int) (xs : List Int) (v : Value) (ls : List Int) (w : World) (h : Sk w g ov E xs) (hr : Rd .u8 w v ls) (hy : By ls) (h1 : 1 <= ls.length) (h2 : ls.length <= 65536) (hl : xs.length <= 1000)
  (hvg : v.ownBlock ≠ some g) (hvo : ∀ k, v.ownBlock = some k -> ov.ownBlock ≠ some k) (hold : ∀ k, v.ownBlock = some k -> k < w.heap.size) :
  Calls Tryz.prog 27 #[.pointer (some ⟨g, 0, none⟩), v] w fun e w' => e = .returned (.tuple #[]) /\ ∃ ov' bs, LitR ls bs /\ bs.length <= 70000 /\ SkTo w g ov w' ov' E (xs ++ bs) := by
 have H : Hid (Sk w g ov E xs) := h
 have HR : Hid (Rd .u8 w v ls) := hr
 have HY : Hid (By ls) := hy
 have HVG : Hid (v.ownBlock ≠ some g) := hvg
 have HVO : Hid (∀ k, v.ownBlock = some k -> ov.ownBlock ≠ some k /\ k < w.heap.size) := fun k hk => ⟨hvo k hk, hold k hk⟩
 obtain ⟨va, vc, hva, _⟩ := hr
 have hd := ze9 (ls.length : Int)
 clear h hy hvg hvo hold
 subst hva
 go_enter Tryz.func27, Tryz.ntmps27
 go_wp2_with fail
 refine (zcv9 g ov E xs ls.length w H.out (by omega) (by omega)).mono ?_
 rintro e w1 ⟨rfl, ov1, h1'⟩
 have S1 : Hid (SkTo w g ov w1 ov1 E (xs ++ digits (ls.length : Int))) := h1'
 have R1 : Hid (Rd .u8 w1 (.slice va ls.length vc) ls) := HR.out.tch h1'.tch (fun b hb e => by rcases e with e | e; (· exact HVG.out (by rw [hb, e])); (· exact (HVO.out b hb).1 e))
 have V1 : Hid (∀ k, (Value.slice va ls.length vc).ownBlock = some k -> k < w1.heap.size /\ ov1.ownBlock ≠ some k) := fun k hk => by
  have h3 := HVO.out k hk
  refine ⟨by have := h1'.tch.size; omega, fun e => ?_⟩
  rcases h1'.fresh k e with e | e
  ·exact h3.1 e
  ·omega
 clear h1' H HR
 go_wp2_with fail
 refine (zqj9 _ ls w1 R1.out HY.out h1 h2 (fun k hk => (V1.out k hk).1)).mono ?_
 rintro e w2 ⟨g2, ov2, cb, rfl, hs2, hcd, hcl, hb2, hg2, hn2⟩
 have S2 : Hid (SkTo w g ov w2 ov1 E (xs ++ digits (ls.length : Int))) := S1.out.post hb2
 have R2 : Hid (Rd .u8 w2 (.slice va ls.length vc) ls) := R1.out.below hb2
 have K2 : Hid (Sk w2 g2 ov2 0 cb) := hs2
 have HCD : Hid (Cdd ls cb) := hcd
 have N2 : Hid (g2 ≠ g /\ (∀ k, ov2.ownBlock = some k -> k ≠ g /\ ov1.ownBlock ≠ some k) /\ ov1.ownBlock ≠ some g2) := by
  have hgl := S1.out.sk.lt
  refine ⟨by omega, fun k hk => ⟨by have := hn2 k hk; omega, fun e => ?_⟩, fun e => ?_⟩
  ·have := hn2 k hk; have := S1.out.sk.own.lt k e; omega
  ·have := S1.out.sk.own.lt g2 e; omega
 have c1 := hs2.c1
 clear hs2 hcd hb2 hg2 hn2 S1 R1
 go_wp2_with fail
 refine (zdr9 g ov1 E 0 _ w2 S2.out.sk).mono ?_
 rintro e w3 ⟨rfl, hs3, ht3⟩
 rw [zm9] at hs3
 have S3 : Hid (SkTo w g ov w3 ov1 E (xs ++ digits (ls.length : Int))) := S2.out.trans (SkTo.kept hs3 ht3)
 have R3 : Hid (Rd .u8 w3 (.slice va ls.length vc) ls) := R2.out.tch ht3 (fun b hb e => HVG.out (by rw [hb, e]))
 have K3 : Hid (Sk w3 g2 ov2 0 cb) := K2.out.tch ht3 (fun e => N2.out.1 e) (fun k hk e => (N2.out.2.1 k hk).1 e)
 have d0 := K3.out.c0
 obtain ⟨a2, p2, hov2, _⟩ := K3.out.own.rd
 clear hs3 ht3 S2 R2 K2 c1
 obtain ⟨zs, hzs⟩ : ∃ zs, Hid (xs ++ digits (ls.length : Int) = zs) := ⟨_, rfl⟩
 have hzl : zs.length <= 2000 := by rw [<- hzs.out, List.length_append]; omega
 rw [hzs.out] at S3
 subst hov2
 by_cases hlt : cb.length < ls.length
 ·have HL : Hid (LitR ls (digits (ls.length : Int) ++ ([1] ++ cb))) := ⟨cb, HCD.out, by rw [if_pos hlt]⟩
  go_wp2_with fail
  obtain ⟨W4, hW4⟩ : ∃ W4, Hid (w3.alloc (.cells #[.int .u8 1] 5) = W4) := ⟨_, rfl⟩
  have b4 : Below w3.heap.size w3 W4 := by rw [<- hW4.out]; exact (Below.refl _ _).alloc (Nat.le_refl _) _
  have o4 : Owns .u8 5 W4 (.slice (some ⟨w3.heap.size, 0, none⟩) 1 1) [1] := by rw [<- hW4.out]; exact own1b w3 1
  rw [hW4.out]
  have S4 : Hid (SkTo w g ov W4 ov1 E zs) := S3.out.post b4
  have K4 : Hid (Sk W4 g2 (.slice a2 cb.length p2) 0 cb) := K3.out.below b4
  refine (zaf9 g ov1 E 0 zs _ [1] W4 S4.out.sk o4.rd (fun e => by simp only [Value.ownBlock, Option.some.injEq] at e; have := S3.out.sk.lt; omega) (by simp; omega)).mono ?_
  rintro e w5 ⟨rfl, ov5, h5⟩
  rw [zm9] at h5
  have S5 : Hid (SkTo w g ov w5 ov5 E (zs ++ [1])) := S4.out.trans h5
  have K5 : Hid (Sk w5 g2 (.slice a2 cb.length p2) 0 cb) := K4.out.tch h5.tch (fun e => by rcases e with e | e; (· exact N2.out.1 e); (· exact N2.out.2.2 e)) (fun k hk e => by rcases e with e | e; (· exact (N2.out.2.1 k hk).1 e); (· exact (N2.out.2.1 k hk).2 e))
  have e0 := K5.out.c0
  clear h5 b4 o4 hW4 S4 K4 S3 K3 R3 d0
  go_wp2_with fail
  refine (zaf9 g ov5 E 0 (zs ++ [1]) _ cb w5 S5.out.sk K5.out.own.rd (fun e => (N2.out.2.1 g e).1 rfl) (by simp; omega)).mono ?_
  rintro e w6 ⟨rfl, ov6, h6⟩
  rw [zm9] at h6
  have S6 : Hid (SkTo w g ov w6 ov6 E (xs ++ (digits (ls.length : Int) ++ ([1] ++ cb)))) := by
   have := S5.out.trans h6
   rw [<- hzs.out] at this
   simpa [List.append_assoc, Hid] using this
  clear h6 S5 K5 e0
  go_wp2_with fail
  (try simp only [Exit.inBlock, Exit.then])
  refine bodyPost_ret (results_none rfl _ _ _) rfl ?_
  exact ⟨rfl, ov6, _, HL.out, by simp; omega, S6.out⟩
 ·have HL : Hid (LitR ls (digits (ls.length : Int) ++ ([0] ++ ls))) := ⟨cb, HCD.out, by rw [if_neg hlt]⟩
  have hltb : decide (cb.length < ls.length) = false := by rw [decide_eq_false_iff_not]; exact hlt
  go_wp2_with fail
  obtain ⟨W4, hW4⟩ : ∃ W4, Hid (w3.alloc (.cells #[.int .u8 0] 5) = W4) := ⟨_, rfl⟩
  have b4 : Below w3.heap.size w3 W4 := by rw [<- hW4.out]; exact (Below.refl _ _).alloc (Nat.le_refl _) _
  have o4 : Owns .u8 5 W4 (.slice (some ⟨w3.heap.size, 0, none⟩) 1 1) [0] := by rw [<- hW4.out]; exact own1b w3 0
  rw [hW4.out]
  have S4 : Hid (SkTo w g ov W4 ov1 E zs) := S3.out.post b4
  have R4 : Hid (Rd .u8 W4 (.slice va ls.length vc) ls) := R3.out.below b4
  refine (zaf9 g ov1 E 0 zs _ [0] W4 S4.out.sk o4.rd (fun e => by simp only [Value.ownBlock, Option.some.injEq] at e; have := S3.out.sk.lt; omega) (by simp; omega)).mono ?_
  rintro e w5 ⟨rfl, ov5, h5⟩
  rw [zm9] at h5
  have S5 : Hid (SkTo w g ov w5 ov5 E (zs ++ [0])) := S4.out.trans h5
  have R5 : Hid (Rd .u8 w5 (.slice va ls.length vc) ls) := R4.out.tch h5.tch (fun b hb e => by rcases e with e | e; (· exact HVG.out (by rw [hb, e])); (· exact (V1.out b hb).2 e))
  clear h5 b4 o4 hW4 S4 R4 S3 K3 R3 d0
  go_wp2_with fail
  refine (zaf9 g ov5 E 0 (zs ++ [0]) _ ls w5 S5.out.sk R5.out HVG.out (by simp; omega)).mono ?_
  rintro e w6 ⟨rfl, ov6, h6⟩
  rw [zm9] at h6
  have S6 : Hid (SkTo w g ov w6 ov6 E (xs ++ (digits (ls.length : Int) ++ ([0] ++ ls)))) := by
   have := S5.out.trans h6
   rw [<- hzs.out] at this
   simpa [List.append_assoc, Hid] using this
  clear h6 S5 R5
  go_wp2_with fail
  go_end0
  exact ⟨rfl, ov6, _, HL.out, by simp; omega, S6.out⟩
end Go.Proofs.YtobenjkacpipeaaGreat
