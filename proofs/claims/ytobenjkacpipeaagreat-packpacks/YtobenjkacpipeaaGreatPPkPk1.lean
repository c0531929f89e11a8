import Derived.Test.YtobenjkacpipeaaGreatPPkSnk
import Derived.Shelf.Bytes.SlCountOne
import Derived.Test.YtobenjkacpipeaaGreatPPkRst
import Derived.Test.YtobenjkacpipeaaGreatPMLit
import Derived.Test.YtobenjkacpipeaaGreatPMBest
set_option maxRecDepth 100000
set_option linter.unusedVariables false
set_option linter.unusedSimpArgs false
set_option maxHeartbeats 8000000
namespace Go.Proofs.YtobenjkacpipeaaGreat
open Go.RowKit Pl
def alike (ds : List Int) : Bool := decide (0 < ds.length /\ ∀ i, i < ds.length -> ds.getD i 0 = ds.getD 0 0)
theorem zyh9 {x y : Int} (hx : 0 <= x /\ x <= 255) (hy : 0 <= y /\ y <= 255) (h : x.toNat.toUInt8 = y.toNat.toUInt8) : x = y := by
 have h2 := congrArg UInt8.toNat h
 have k : ∀ n : Nat, n <= 255 -> n.toUInt8.toNat = n := fun n hn => by
  show (UInt8.ofNat n).toNat = n
  rw [UInt8.toNat_ofNat']
  exact Nat.mod_eq_of_lt (by omega)
 rw [k _ (by omega), k _ (by omega)] at h2
 omega
theorem zmf9 {ds : List Int} (hy : By ds) (h0 : 0 < ds.length) : ((Lib.countByte (Lib.bytesOf ds) (ds.getD 0 0).toNat.toUInt8 : Nat) : Int) = (ds.length : Int) ↔ alike ds = true := by
 unfold alike Lib.countByte
 rw [decide_eq_true_eq]
 have hl : (Lib.bytesOf ds).length = ds.length := by simp [Lib.bytesOf]
 constructor
 ·intro h
  refine ⟨h0, fun i hi => ?_⟩
  have h2 : (Lib.bytesOf ds).count (ds.getD 0 0).toNat.toUInt8 = (Lib.bytesOf ds).length := by rw [hl]; omega
  rw [List.count_eq_length] at h2
  have h3 := h2 (ds.getD i 0).toNat.toUInt8 (by
   simp only [Lib.bytesOf, List.mem_map]
   exact ⟨ds.getD i 0, by rw [List.getD_eq_getElem?_getD, List.getElem?_eq_getElem hi]; exact List.getElem_mem _, rfl⟩)
  exact (zyh9 (hy 0) (hy i) h3).symm
 ·rintro ⟨_, h⟩
  have h2 : (Lib.bytesOf ds).count (ds.getD 0 0).toNat.toUInt8 = (Lib.bytesOf ds).length := by
   rw [List.count_eq_length]
   intro b hb
   simp only [Lib.bytesOf, List.mem_map] at hb
   obtain ⟨x, hx, rfl⟩ := hb
   obtain ⟨i, hi, rfl⟩ := List.getElem_of_mem hx
   have := h i hi
   rw [List.getD_eq_getElem?_getD, List.getElem?_eq_getElem hi] at this
   simp only [Option.getD_some] at this
   rw [this]
  rw [h2, hl]
theorem ztc9 (b o cap : Nat) (ds : List Int) (w : World) (h0 : 0 < ds.length) (hc : ∀ i, i < ds.length -> w.cell? ⟨b, o + i, none⟩ = some (.int .u8 (ds.getD i 0))) :
  Calls Tryz.prog 24 #[.slice (some ⟨b, o, none⟩) ds.length cap, .slice (some ⟨b, o, none⟩) 1 cap] w fun e w' => e = .returned (.int .i64 (Lib.countByte (Lib.bytesOf ds) (ds.getD 0 0).toNat.toUInt8)) /\ w' = w := by
 have HC : Hid (∀ i, i < ds.length -> w.cell? ⟨b, o + i, none⟩ = some (.int .u8 (ds.getD i 0))) := hc
 obtain ⟨x, hx⟩ : ∃ x, Hid (ds.getD 0 0 = x) := ⟨_, rfl⟩
 have c0 : w.cell? ⟨b, o, none⟩ = some (.int .u8 x) := by rw [<- hx.out]; exact hc 0 h0
 rw [hx.out]
 clear hc
 go_enter Tryz.func24, Tryz.ntmps24
 go_wp2
 rw [run_callFunc_extern Tryz.func48 (by kernel_rfl) (by kernel_rfl) (by kernel_rfl) (e := Extern.BytealgCount.count) (by kernel_rfl), Lib.run_countSlice w b o ds.length cap ds rfl HC.out x]
 simp only [Result.andThen]
 rw [Oper.upon_value]
 go_wp2
 go_ret
 exact ⟨rfl, rfl⟩
theorem zhf9 (v : Value) (ds : List Int) (w : World) (hr : Rd .u8 w v ds) (hy : By ds) :
  Calls Tryz.prog 11 #[v] w fun e w' => e = .returned (.bool (alike ds)) /\ w' = w := by
 obtain ⟨a, cap, rfl, hlc, hcm, hnil, hcc⟩ := hr
 by_cases h0 : 0 < ds.length
 ·obtain ⟨b, o, rfl, hc⟩ : ∃ b o, a = some ⟨b, o, none⟩ /\ ∀ i, i < ds.length -> w.cell? ⟨b, o + i, none⟩ = some (.int .u8 (ds.getD i 0)) := by
   rcases hcc with h | h
   ·rw [h] at h0; simp at h0
   ·exact h
  have HCN : Hid (Calls Tryz.prog 24 #[.slice (some ⟨b, o, none⟩) ds.length cap, .slice (some ⟨b, o, none⟩) 1 cap] w fun e w' => e = .returned (.int .i64 (Lib.countByte (Lib.bytesOf ds) (ds.getD 0 0).toNat.toUInt8)) /\ w' = w) := ztc9 b o cap ds w h0 hc
  have hal := zmf9 hy h0
  obtain ⟨N, hN⟩ : ∃ N, Hid (Lib.countByte (Lib.bytesOf ds) (ds.getD 0 0).toNat.toUInt8 = N) := ⟨_, rfl⟩
  rw [hN.out] at HCN hal
  obtain ⟨R, hR⟩ : ∃ R, alike ds = R := ⟨_, rfl⟩
  rw [hR] at hal ⊢
  have HAL : Hid (((N : Int) == (ds.length : Int)) = R) := by
   show _ = _
   cases R with
   | true => simpa using hal.2 rfl
   | false =>
    rw [beq_eq_false_iff_ne]
    intro e
    have := hal.1 e
    cases this
  have hc1 : (1 : Int) <= (cap : Int) := by omega
  clear hcc hc hal hR hy hnil
  go_enter Tryz.func11, Tryz.ntmps11
  go_wp2_with fail
  refine HCN.out.mono ?_
  clear HCN
  rintro e w1 ⟨rfl, rfl⟩
  go_wp2_with fail
  go_ret
  exact ⟨by rw [<- HAL.out]; rfl, rfl⟩
 ·have hR : alike ds = false := by unfold alike; rw [decide_eq_false_iff_not]; exact fun e => h0 e.1
  have hl0 : ds.length = 0 := by omega
  rw [hR, hl0]
  clear hcc hnil hR h0 hlc
  go_enter Tryz.func11, Tryz.ntmps11
  go_wp2_with fail
  go_ret
  exact ⟨rfl, rfl⟩
theorem zni9 (g1 g2 : Nat) (o1 o2 : Value) (E1 E2 : Int) (xs ys : List Int) (w : World) (h1 : Sk w g1 o1 E1 xs) (h2 : Sk w g2 o2 E2 ys) :
  Calls Tryz.prog 12 #[.pointer (some ⟨g1, 0, none⟩), .pointer (some ⟨g2, 0, none⟩)] w fun e w' => e = .returned (.pointer (some ⟨if ys.length < xs.length then g2 else g1, 0, none⟩)) /\ ∃ q, w' = w.drewN q := by
 have c1 := h1.c0
 have c2 := h2.c0
 obtain ⟨a1, p1, hv1, _⟩ := h1.own.rd
 obtain ⟨a2, p2, hv2, _⟩ := h2.own.rd
 rw [hv1] at c1
 rw [hv2] at c2
 clear h1 h2 hv1 hv2
 by_cases hlt : ys.length < xs.length
 ·rw [if_pos hlt]
  have hlb : decide (ys.length < xs.length) = true := by rw [decide_eq_true_eq]; exact hlt
  go_enter Tryz.func12, Tryz.ntmps12
  go_wp2
  go_quiet (fail)
  go_wp2
  go_ret
  exact ⟨rfl, _, rfl⟩
 ·rw [if_neg hlt]
  have hlb : decide (ys.length < xs.length) = false := by rw [decide_eq_false_iff_not]; exact hlt
  go_enter Tryz.func12, Tryz.ntmps12
  go_wp2
  go_quiet (fail)
  go_wp2
  go_ret
  exact ⟨rfl, _, rfl⟩
theorem zha9 (D : Nat) (mode : Int) (a : Option Addr) (n cap : Nat) (w : World) (hD : w.cell? ⟨D, 0, none⟩ = some (.slice a n cap)) (hn : n <= 65536) :
  Calls Tryz.prog 8 #[.int .u8 mode, .pointer (some ⟨D, 0, none⟩)] w fun e w' => ∃ g ov, e = .returned (.pointer (some ⟨g, 0, none⟩)) /\ Sk w' g ov 0 ([mode] ++ digits n) /\ Below w.heap.size w w' /\ w.heap.size <= g /\ ∀ k, ov.ownBlock = some k -> w.heap.size <= k := by
 have hDl : D < w.heap.size := World.block_lt_of_cell? w ⟨D, 0, none⟩ hD
 go_enter Tryz.func8, Tryz.ntmps8
 go_wp2_with fail
 obtain ⟨W0, hW0⟩ : ∃ W0, Hid ((w.alloc (.cells #[.int .u8 mode] 5)).alloc (.cells #[.slice (some ⟨w.heap.size, 0, none⟩) 1 1, .int .i64 0] 31) = W0) := ⟨_, rfl⟩
 rw [hW0.out]
 obtain ⟨g, hg⟩ : ∃ g, w.heap.size + 1 = g := ⟨_, rfl⟩
 rw [hg]
 have B0 : Hid (Below w.heap.size w W0) := by rw [<- hW0.out]; exact ((Below.refl _ _).alloc (Nat.le_refl _) _).alloc (by simp only [World.size_alloc]; omega) _
 have S0 : Hid (Sk W0 g (.slice (some ⟨w.heap.size, 0, none⟩) 1 1) 0 [mode]) := by
  refine ⟨?_, ?_⟩
  ·rw [<- hW0.out, <- hg]
   have := heap_alloc_new (w.alloc (.cells #[.int .u8 mode] 5)) (.cells #[.slice (some ⟨w.heap.size, 0, none⟩) 1 1, .int .i64 0] 31)
   rw [World.size_alloc] at this
   exact this
  ·rw [<- hW0.out]
   exact (own1b w mode).below ((Below.refl _ _).alloc (Nat.le_refl _) _)
 clear hW0 hD
 refine (zcv9 g _ 0 [mode] n W0 S0.out (by omega) (by simp)).mono ?_
 rintro e w1 ⟨rfl, ov1, h1⟩
 have S1 : Hid (Sk w1 g ov1 0 ([mode] ++ digits (n : Int))) := h1.sk
 have B1 : Hid (Below w.heap.size w w1) := B0.out.trans (h1.tch.below B0.out.size (fun k e => by
  rcases e with e | e
  ·omega
  ·simp only [Value.ownBlock, Option.some.injEq] at e; omega))
 have N1 : Hid (∀ k, ov1.ownBlock = some k -> w.heap.size <= k) := fun k hk => by
  rcases h1.fresh k hk with e | e
  ·simp only [Value.ownBlock, Option.some.injEq] at e; omega
  ·have := B0.out.size; omega
 clear h1 S0 B0
 go_wp2_with fail
 go_ret
 exact ⟨g, ov1, rfl, S1.out, B1.out, by omega, N1.out⟩
theorem zss9 (g : Nat) (ov : Value) (E : Int) (xs : List Int) (v : Value) (ds : List Int) (w : World) (h : Sk w g ov E xs) (hr : Rd .u8 w v ds) (h0 : 0 < ds.length) (hv : v.ownBlock ≠ some g) (hl : xs.length <= 1000) :
  Calls Tryz.prog 13 #[.pointer (some ⟨g, 0, none⟩), v] w fun e w' => e = .returned (.pointer (some ⟨g, 0, none⟩)) /\ ∃ ov', SkTo w g ov w' ov' E (xs ++ [ds.getD 0 0]) := by
 have H : Hid (Sk w g ov E xs) := h
 have HR : Hid (Rd .u8 w v ds) := hr
 have HV : Hid (v.ownBlock ≠ some g) := hv
 have HT1 : Hid (ds.take 1 = [ds.getD 0 0]) := by
  show _ = _
  cases ds with
  | nil => simp at h0
  | cons x r => rfl
 clear h hr hv
 go_enter Tryz.func13, Tryz.ntmps13
 go_wp2_with (with_reducible (show wpList _ _ _ (Oper.mk _ (Op.slice _ _ _ _ _) _ _ _ _ :: _) _ _); refine zbs9 sl8 _ w rfl (.tmp 6) (.const (.int .i64 1)) rfl _ ds rfl HR.out 1 rfl (by omega) ?_)
 intro v1 hr1 hb1
 rw [HT1.out] at hr1
 have R1 : Hid (Rd .u8 w v1 [ds.getD 0 0]) := hr1
 have hv1 : v1.ownBlock ≠ some g := fun e => HV.out (hb1 g e)
 clear hr1 hb1
 go_wp2_with fail
 refine (zaf9 g ov E 0 xs v1 _ w H.out R1.out hv1 (by simp; omega)).mono ?_
 rintro e w2 ⟨rfl, ov2, h2⟩
 rw [zm9] at h2
 have S2 : Hid (SkTo w g ov w2 ov2 E (xs ++ [ds.getD 0 0])) := h2
 clear h2
 go_wp2_with fail
 go_ret
 exact ⟨rfl, ov2, S2.out⟩
theorem sc_ok {ds : List Int} {W : Nat} (hn : ds.length <= 65536) (hW : W <= 65536) {ps : List Sq} {p : Nat} (h : SC ds W ps p) : (∀ x ∈ ps, SqOk x) /\ 4 * ps.length <= p := by
 induction h with
 | nil => exact ⟨fun x hx => by simp at hx, by simp⟩
 | snoc ps p l h hp ih =>
  obtain ⟨s1, s2, s3, s4, s5, _⟩ := zcd9 hp
  refine ⟨fun x hx => ?_, by simp; omega⟩
  rw [List.mem_append, List.mem_singleton] at hx
  rcases hx with hx | rfl
  ·exact ih.1 x hx
  ·intro i hi
   match i, hi with
   | 0, _ => simp [vOf]; omega
   | 1, _ => simp [vOf]; omega
   | 2, _ => simp [vOf]; omega
theorem znt9 (ds : List Int) (hn : ds.length <= 65536) : (∀ x ∈ steps ds 65536, SqOk x) /\ (steps ds 65536).length <= 16384 /\ 4 * (steps ds 65536).length <= ds.length := by
 obtain ⟨h1, h2, h3⟩ := fst_sc ds 65536 ds.length
 obtain ⟨a, b⟩ := sc_ok hn (Nat.le_refl _) h3
 have : 4 * (steps ds 65536).length <= ds.length := by
  have h4 : 4 * (fst_ ds 65536 ds.length).2.2.length <= ds.length := by omega
  exact h4
 exact ⟨a, by omega, this⟩
theorem zuc9 (ps : List Sq) (most : Int) : ∀ k, (rs [] ps most k).2.2 = []
 | 0 => rfl
 | k + 1 => by
  have ih := zuc9 ps most k
  simp only [rs]
  split
  ·exact ih
  ·split
   ·rfl
   ·rename_i hok
    split
    ·rfl
    ·simp only
     rw [ih]
     have hok2 : okS (ps.getD k sq0) (([] : List Int).length - (rs [] ps most k).2.1) (rs [] ps most k).2.2.length = true := by simpa using hok
     rw [ih] at hok2
     unfold okS at hok2
     rw [decide_eq_true_eq] at hok2
     simp only [List.length_nil, Nat.zero_sub] at hok2
     have h1 : (ps.getD k sq0).2.1 = 0 := by omega
     rw [h1]
     simp [cpy]
theorem zxz9 (ps : List Sq) (most : Int) : (runR [] ps most).2 = [] := by
 unfold runR
 split
 ·rfl
 ·split
  ·rfl
  ·split
   ·rfl
   ·simp [zuc9]
theorem zly9 {ds L : List Int} (hn : ds.length <= 65536) (h0 : 0 < ds.length) (h : litR ds (steps ds 65536) = (0, L)) : 1 <= L.length := by
 obtain ⟨L2, h1, h2, _, _⟩ := zfa9 ds 65536 hn
 rw [h] at h1
 simp only [Prod.mk.injEq, true_and] at h1
 subst h1
 by_cases e : L.length = 0
 ·have : L = [] := List.eq_nil_of_length_eq_zero e
  subst this
  have h3 := zxz9 (steps ds 65536) (ds.length : Int)
  rw [h2] at h3
  simp only at h3
  rw [h3] at h0
  simp at h0
 ·omega
theorem by_app {xs ys : List Int} (h : By xs) (k : By ys) : By (xs ++ ys) := by
 intro i
 rw [zal9]
 split
 ·exact h i
 ·exact k _
theorem zuu9 {ds L : List Int} {ps : List Sq} (hy : By ds) (h : litR ds ps = (0, L)) : By L := by
 have hlt : ∀ k t, lt_ ds ps k = some t -> By t.2 := by
  intro k
  induction k with
  | zero => intro t ht; simp [lt_] at ht; subst ht; exact By.nil
  | succ k ih =>
   intro t ht
   simp only [lt_] at ht
   split at ht
   ·cases ht
   ·rename_i t0 h0
    split at ht
    ·cases ht
    ·cases ht
     exact by_app (ih t0 h0) (By.take (By.drop hy _) _)
 unfold litR at h
 split at h
 ·cases h
 ·rename_i t ht
  simp only [Prod.mk.injEq, true_and] at h
  subst h
  exact by_app (hlt _ t ht) (By.drop hy _)
def PkdR (ds bs : List Int) : Prop := ∃ L lb, litR ds (steps ds 65536) = (0, L) /\ L.length <= ds.length /\ LitR L lb /\ lb.length <= 70000 /\ bs = lb ++ stpB (steps ds 65536)
theorem zkr9 (g : Nat) (ov : Value) (xs : List Int) (v : Value) (ds : List Int) (w : World) (h : Sk w g ov 0 xs) (hr : Rd .u8 w v ds) (hy : By ds) (h0 : 0 < ds.length) (hn : ds.length <= 65536) (hv : v.ownBlock ≠ some g) (hvo : ∀ k, v.ownBlock = some k -> ov.ownBlock ≠ some k) (hl : xs.length <= 1000) :
  Calls Tryz.prog 14 #[.pointer (some ⟨g, 0, none⟩), v] w fun e w' => e = .returned (.pointer (some ⟨g, 0, none⟩)) /\ ∃ ov' bs, PkdR ds bs /\ SkTo w g ov w' ov' 0 (xs ++ bs) := by
 have H : Hid (Sk w g ov 0 xs) := h
 have HR : Hid (Rd .u8 w v ds) := hr
 have HY : Hid (By ds) := hy
 have HV : Hid (v.ownBlock ≠ some g /\ ∀ k, v.ownBlock = some k -> ov.ownBlock ≠ some k) := ⟨hv, hvo⟩
 obtain ⟨L, hL1, _, _, hL4⟩ := zfa9 ds 65536 hn
 have hLs := zly9 hn h0 hL1
 have HLB : Hid (By L) := zuu9 hy hL1
 obtain ⟨sk1, sk2, _⟩ := znt9 ds hn
 have HSK : Hid (∀ x ∈ steps ds 65536, SqOk x) := sk1
 have HFR : Hid (findR ds 65536 = (0, steps ds 65536)) := by show _ = _; unfold findR; rw [if_neg (by omega)]; rfl
 have HLR : Hid (litR ds (steps ds 65536) = (0, L)) := hL1
 obtain ⟨ps, hps⟩ : ∃ ps, Hid (steps ds 65536 = ps) := ⟨_, rfl⟩
 rw [hps.out] at HSK HFR HLR sk2
 clear h hr hy hv hvo hL1 sk1
 go_enter Tryz.func14, Tryz.ntmps14
 go_wp2_with fail
 have H1 := zrg9 v ds 65536 w HR.out HY.out
 rw [HFR.out] at H1
 refine H1.mono ?_
 clear H1
 rintro e w1 ⟨sv, rfl, hb1, hf1, ho1⟩
 have S1 : Hid (Sk w1 g ov 0 xs) := H.out.below hb1
 have B1 : Hid (Below w.heap.size w w1) := hb1
 have O1 : Hid (OwnsS w1 sv ps) := ho1
 have N1 : Hid (∀ k, sv.ownBlock = some k -> k ≠ g /\ ov.ownBlock ≠ some k) := fun k hk => ⟨by have := hf1 k hk; have := H.out.lt; omega, fun e => by have := hf1 k hk; have := H.out.own.lt k e; omega⟩
 have R1 : Hid (Rd .u8 w1 v ds) := HR.out.below hb1
 simp only
 clear hb1 hf1 ho1 H HR
 go_wp2_with fail
 refine (zdr9 g ov 0 0 xs w1 S1.out).mono ?_
 rintro e w2 ⟨rfl, hs2, ht2⟩
 rw [zm9] at hs2
 have S2 : Hid (SkTo w g ov w2 ov 0 xs) := SkTo.pre B1.out (SkTo.kept hs2 ht2)
 have O2 : Hid (OwnsS w2 sv ps) := O1.out.tch ht2 (fun k hk e => (N1.out k hk).1 e)
 have R2 : Hid (Rd .u8 w2 v ds) := R1.out.tch ht2 (fun b hb e => HV.out.1 (by rw [hb, e]))
 clear hs2 ht2 S1 B1 O1 R1
 go_wp2_with fail
 have H3 := zkx9 v sv ds ps w2 R2.out (by omega) O2.out.rd (by omega)
 rw [HLR.out] at H3
 refine H3.mono ?_
 clear H3
 rintro e w3 ⟨lv, rfl, hb3, hf3, ho3⟩
 have S3 : Hid (SkTo w g ov w3 ov 0 xs) := S2.out.post hb3
 have O3 : Hid (OwnsS w3 sv ps) := O2.out.below hb3
 have L3 : Hid (Owns .u8 5 w3 lv L) := ho3
 have N3 : Hid (∀ k, lv.ownBlock = some k -> k ≠ g /\ ov.ownBlock ≠ some k /\ sv.ownBlock ≠ some k) := fun k hk => by
  have h1 := hf3 k hk
  refine ⟨by have := S2.out.sk.lt; omega, fun e => by have := S2.out.sk.own.lt k e; omega, fun e => ?_⟩
  have := (World.ownsRow.lt (show w2.ownsRow 0 55 3 sv _ _ from O2.out) k e).2
  omega
 simp only
 clear hb3 hf3 ho3 S2 O2 R2
 go_wp2_with fail
 refine (zdr9 g ov 0 0 xs w3 S3.out.sk).mono ?_
 rintro e w4 ⟨rfl, hs4, ht4⟩
 rw [zm9] at hs4
 have S4 : Hid (SkTo w g ov w4 ov 0 xs) := S3.out.trans (SkTo.kept hs4 ht4)
 have O4 : Hid (OwnsS w4 sv ps) := O3.out.tch ht4 (fun k hk e => (N1.out k hk).1 e)
 have L4 : Hid (Owns .u8 5 w4 lv L) := L3.out.tch ht4 (fun k hk e => (N3.out k hk).1 e)
 clear hs4 ht4 S3 O3 L3
 go_wp2_with fail
 refine (zfq9 g ov 0 xs lv L w4 S4.out.sk L4.out.rd HLB.out hLs (by omega) hl (fun e => (N3.out g e).1 rfl) (fun k hk => (N3.out k hk).2.1) L4.out.lt).mono ?_
 rintro e w5 ⟨rfl, ov5, lb, hlr, hll, h5⟩
 have S5 : Hid (SkTo w g ov w5 ov5 0 (xs ++ lb)) := S4.out.trans h5
 have O5 : Hid (OwnsS w5 sv ps) := O4.out.tch h5.tch (fun k hk e => by rcases e with e | e; (· exact (N1.out k hk).1 e); (· exact (N1.out k hk).2 e))
 have HLT : Hid (LitR L lb) := hlr
 have N5 : Hid (∀ k, sv.ownBlock = some k -> ov5.ownBlock ≠ some k /\ k < w5.heap.size) := fun k hk => by
  have hlt := (World.ownsRow.lt (show w4.ownsRow 0 55 3 sv _ _ from O4.out) k hk).2
  refine ⟨fun e => ?_, by have := h5.tch.size; omega⟩
  rcases h5.fresh k e with e | e
  ·exact (N1.out k hk).2 e
  ·omega
 clear h5 hlr S4 O4 L4
 go_wp2_with fail
 refine (zjm9 g ov5 0 (xs ++ lb) sv ps w5 S5.out.sk O5.out.rd HSK.out sk2 (by rw [List.length_append]; omega) (fun e => (N1.out g e).1 rfl) (fun k hk => (N5.out k hk).1) (fun k hk => (N5.out k hk).2)).mono ?_
 rintro e w6 ⟨rfl, ov6, h6⟩
 have S6 : Hid (SkTo w g ov w6 ov6 0 (xs ++ (lb ++ stpB ps))) := by have := S5.out.trans h6; rw [List.append_assoc] at this; exact this
 clear h6 S5 O5
 go_wp2_with fail
 go_ret
 exact ⟨rfl, ov6, lb ++ stpB ps, ⟨L, lb, by rw [hps.out]; exact HLR.out, hL4, HLT.out, hll, by rw [hps.out]⟩, S6.out⟩
end Go.Proofs.YtobenjkacpipeaaGreat
