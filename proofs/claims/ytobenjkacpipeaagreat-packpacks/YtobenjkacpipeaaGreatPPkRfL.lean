import Derived.Test.YtobenjkacpipeaaGreatPSRefX
import Derived.Test.YtobenjkacpipeaaGreatPHLeast
import Derived.Test.YtobenjkacpipeaaGreatPHCodes
import Derived.Test.YtobenjkacpipeaaGreatPPkSnk
import Derived.Test.YtobenjkacpipeaaGreatPPkRst
import Derived.Test.YtobenjkacpipeaaGreatPFRefShare
set_option maxRecDepth 100000
set_option linter.unusedVariables false
set_option linter.unusedSimpArgs false
set_option maxHeartbeats 8000000
namespace Go.Proofs.YtobenjkacpipeaaGreat
open Go.RowKit Pl Hf
theorem zuw9 {n : Nat} {f g : Nat -> Int} {c : Nat} {u : Int} (h : ∀ i, g i = if i = c then u else f i) : ((List.range n).map f).set c u = (List.range n).map g := by
 apply List.ext_getElem?
 intro j
 rw [List.getElem?_set]
 by_cases e : c = j
 ·subst e
  by_cases hj : c < n
  ·simp [hj, h]
  ·simp [hj]
 ·by_cases hj : j < n
  ·rw [if_neg e]
   simp only [List.getElem?_map, List.getElem?_range hj, Option.map_some, h, if_neg (fun e' : j = c => e e'.symm)]
  ·simp [hj, e]
theorem rng0 (n : Nat) (ls : List Int) : (List.range n).map (ctN ls 0) = List.replicate n 0 := by
 rw [List.eq_replicate_iff]
 simp [ctN]
theorem zdh9 (v : Value) (ls : List Int) (w : World) (hr : Rd .u8 w v ls) (hy : By ls) (h1 : 1 <= ls.length) (h2 : ls.length <= 65536) :
  Calls Tryz.prog 19 #[v] w fun e w' => ∃ v' bs, e = .returned v' /\ LitR ls bs /\ Owns .u8 5 w' v' bs /\ Below w.heap.size w w' /\ ∀ k, v'.ownBlock = some k -> w.heap.size <= k := by
 have HR : Hid (Rd .u8 w v ls) := hr
 have HY : Hid (By ls) := hy
 have H1 : Hid (1 <= ls.length) := h1
 have H2 : Hid (ls.length <= 65536) := h2
 obtain ⟨a, cap, rfl, hlc, hcm, hnil, hcc⟩ := hr
 obtain ⟨ab, ao, rfl, hcell⟩ : ∃ b o, a = some ⟨b, o, none⟩ /\ ∀ i, i < ls.length -> w.cell? ⟨b, o + i, none⟩ = some (.int .u8 (ls.getD i 0)) := by
  rcases hcc with h | h
  ·rw [h] at h1; simp at h1
  ·exact h
 have HCELL : Hid (∀ i, i < ls.length -> w.cell? ⟨ab, ao + i, none⟩ = some (.int .u8 (ls.getD i 0))) := hcell
 clear hcc hnil hcell hy
 obtain ⟨q, hq⟩ : ∃ q, ls.length = q := ⟨_, rfl⟩
 have HQ : Hid (ls.length = q) := hq
 rw [hq] at h1 h2 hlc HR HCELL ⊢
 clear hq
 have hcm2 : cap <= 9223372036854775807 := by unfold maxLen at hcm; omega
 clear hcm
 obtain ⟨j0, hj, hy0, hy1, hy2⟩ := elem64.info
 go_enter Tryz.func19, Tryz.ntmps19
 go_wp2_with fail
 refine (zam9 _ [] q w ⟨none, 0, rfl, Nat.le_refl _, by unfold maxLen; omega, fun _ => rfl, .inl rfl⟩ (by simp) (by omega)).mono ?_
 rintro e w1 ⟨v1, rfl, ho1, hb1, hf1⟩
 rw [List.nil_append] at ho1
 have O1 : Hid (Owns .u8 5 w1 v1 (digits (q : Int))) := ho1
 have B1 : Hid (Below w.heap.size w w1) := hb1
 have N1 : Hid (∀ k, v1.ownBlock = some k -> w.heap.size <= k) := hf1
 have R1 : Hid (Rd .u8 w1 (.slice (some ⟨ab, ao, none⟩) q cap) ls) := HR.out.below hb1
 clear ho1 hb1 hf1
 go_wp2_with (at_builtin; refine zd9 w1 rfl (.tmp 17) (.tmp 18) 22 rfl 5 .u8 1 elem8 (.slice none 0 0) [] rfl (zf9 _ _ _) 0 rfl (by simp) (by simp) ?_)
 intro v2 w2 ho2 hg2
 have O2 : Hid (Owns .u8 5 w2 v2 [0]) := ho2
 have B2 : Hid (Below w1.heap.size w1 w2) := hg2.below.1
 have N2 : Hid (∀ k, v2.ownBlock = some k -> w1.heap.size <= k) := hg2.below.2
 have R2 : Hid (Rd .u8 w2 (.slice (some ⟨ab, ao, none⟩) q cap) ls) := R1.out.below B2.out
 clear ho2 hg2
 go_wp2_with (at_builtin; refine zb9 w2 rfl (.tmp 20) (.tmp 21) 22 rfl 5 .u8 1 elem8 v2 [0] rfl O2.out (.slice (some ⟨ab, ao, none⟩) q cap) ls rfl R2.out (by rw [HQ.out]; simp; omega) (by rw [HQ.out]; simp; omega) ?_)
 intro v3 w3 ho3 hg3
 have h3 := hg3.onto B2.out N2.out
 have O3 : Hid (Owns .u8 5 w3 v3 ([0] ++ ls)) := ho3
 have B3 : Hid (Below w1.heap.size w1 w3) := h3.1
 have N3 : Hid (∀ k, v3.ownBlock = some k -> w1.heap.size <= k) := h3.2
 clear ho3 hg3 h3 O2 B2 N2 R2 R1
 have BW3 : Hid (Below w.heap.size w w3) := B1.out.trans (B3.out.mono B1.out.size)
 go_wp2_with (at_make; refine wpList_make_full _ rfl (.const (.int .i64 256)) (.const (.int .i64 256)) 56 rfl 0 3 j0 _ 1 Tryz.underlying56 hj hy0 hy1 .i64 .i64 _ _ 256 rfl rfl rfl rfl (by rw [hy2]; omega) (by unfold maxLen; omega) (Nat.zero_le _) ?_)
 intro w4 ho4 hg4
 have b4 : Below w3.heap.size w3 w4 := (Below.refl _ _).grown hg4 (Nat.le_refl _) (fun k e => by cases e)
 obtain ⟨g, hg⟩ : ∃ g, w3.heap.size = g := ⟨_, rfl⟩
 have HG : Hid (w3.heap.size = g) := hg
 have O4 : Hid (Owns .i64 3 w4 (.slice (some ⟨g, 0, none⟩) 256 256) ((List.range 256).map (ctN ls 0))) := by
  show w4.ownsRow _ _ _ _ _ _
  rw [toList_madeCells_one, hg] at ho4
  rw [rng0]
  simp only [List.length_replicate, List.map_replicate]
  exact ho4
 have B4 : Hid (Below w3.heap.size w3 w4) := b4
 rw [hg]
 clear ho4 hg4 b4 hj hy0 hy1 hy2 hg
 go_wp2_with fail
 go_loopw [6] (fun i wr => ∃ k : Nat, k <= q /\ i = .int .i64 k /\ Hid (Owns .i64 3 wr (.slice (some ⟨g, 0, none⟩) 256 256) ((List.range 256).map (ctN ls k))) /\ Hid (Below w3.heap.size w3 wr)) (fun i _ => q - (intOf i).toNat)
 case atStart => exact ⟨0, Nat.zero_le _, rfl, O4, B4⟩
 case round =>
  clear O4 B4
  obtain ⟨k, hk, rfl, OC, BC⟩ := hrel
  by_cases hlt : k < q
  ·obtain ⟨c, hc⟩ := Int.eq_ofNat_of_zero_le (HY.out k).1
   have HCX : Hid (ls.getD k 0 = (c : Int)) := hc
   have hc255 := (HY.out k).2
   rw [hc] at hc255
   have hki : (k : Int) < (q : Int) := by omega
   have hx : wr.cell? ⟨ab, ao + k, none⟩ = some (.int .u8 (c : Int)) := by
    have h0 := HCELL.out k hlt
    have h5 := (BW3.out.trans (BC.out.mono BW3.out.size)).cell (p := ⟨ab, ao + k, none⟩) (World.block_lt_of_cell? w ⟨ab, ao + k, none⟩ h0)
    rw [h5, h0, hc]
   have hcc := OC.out.at1 c (by simp; omega)
   obtain ⟨y, hye⟩ : ∃ y, Hid (ctN ls k c = y) := ⟨_, rfl⟩
   have hbd := ctN_bd ls k c
   have hgd : ((List.range 256).map (ctN ls k)).getD c 0 = y := by rw [<- hye.out, List.getD_eq_getElem?_getD]; simp [show c < 256 by omega]
   rw [hgd] at hcc
   rw [hye.out] at hbd
   obtain ⟨hcn, hfn, _⟩ := hcc
   have S2 : Hid (Owns .i64 3 (wr.setCell ⟨g, c, none⟩ (.int .i64 (y + 1))) (.slice (some ⟨g, 0, none⟩) 256 256) ((List.range 256).map (ctN ls (k + 1)))) := by
    have h := OC.out.set c (y + 1)
    rw [zuw9 (g := ctN ls (k + 1)) (fun i => by
     simp only [ctN]
     rw [HCX.out]
     by_cases e : i = c
     ·subst e
      rw [if_pos rfl, if_pos rfl, hye.out]
     ·rw [if_neg e, if_neg (by omega)]
      omega)] at h
    exact h
   have BC2 : Hid (Below w3.heap.size w3 (wr.setCell ⟨g, c, none⟩ (.int .i64 (y + 1)))) := BC.out.trans (((Tch.refl (fun k => k = g) wr).setCell (p := ⟨g, c, none⟩) (fun _ => rfl) _).below BC.out.size (fun k e => by rw [e, HG.out]; exact Nat.le_refl _))
   have hi0 : (0 : Int) <= (c : Int) := by omega
   have hi1 : (c : Int) < 256 := by omega
   clear hc OC BC hgd
   go_wp2_with fail
   go_roundw
   case rel => exact ⟨k + 1, by omega, by go_num, S2, BC2⟩
   case measure => simp [intOf]; omega
  ·have hkq : k = q := by omega
   have hkn : ¬ (k : Int) < (q : Int) := by omega
   have HIR : Hid (Rd .i64 wr (.slice (some ⟨g, 0, none⟩) 256 256) (cts ls)) := by
    have h := OC.out.rd
    rw [hkq, <- HQ.out] at h
    exact h
   have HKQ : Hid (k = q) := hkq
   clear OC hkq
   go_wp2_with fail
   refine (zgo9 _ (cts ls) wr HIR.out).mono ?_
   rintro e w5 ⟨lv, E, rfl, hb5, hf5, hcase⟩
   rcases hcase with ⟨_, _, hbad⟩ | ⟨rfl, hok, ds, hol, hsh⟩
   ·exact absurd (cts_ok HY.out H1.out H2.out) hbad
   have HMB : Hid (mayB (lens (cts ls) ds) = true) := zko9 hok hsh
   have HM : Hid (mayC (lens (cts ls) ds) = true) := zcm9 (zko9 hok hsh)
   have HPOS : Hid (∀ i, i < ls.length -> 0 < (lens (cts ls) ds).getD (ls.getD i 0).toNat 0) := fun i hi => by
    obtain ⟨c, hc⟩ := Int.eq_ofNat_of_zero_le (HY.out i).1
    have hb := (HY.out i).2
    have hp := zil9 ls i hi c hc
    rw [hc, Int.toNat_natCast]
    have hcp : 0 < (cts ls).getD c 0 := by rw [zgp9 ls c (by omega)]; exact hp
    exact (zhl9 hok hsh c (last_of' (by rw [zbz9]; omega) hcp)).2 hcp
   have HSH : Hid (ShS (wt (cts ls) (cts ls).length) ds) := hsh
   obtain ⟨ll, hll⟩ : ∃ ll, Hid (lens (cts ls) ds = ll) := ⟨_, rfl⟩
   rw [hll.out] at hol HM HPOS HMB
   have O5 : Hid (Owns .i64 3 w5 lv ll) := hol
   have B5 : Hid (Below w3.heap.size w3 w5) := BC.out.trans (hb5.mono BC.out.size)
   have HPL : Hid ((pack (ptBits ll)).length <= 600) := by
    show _ <= _
    rw [zc9]
    have h1 := zcz9 ll
    have h2 : ll.length <= 256 := by have h3 := HM.out; unfold mayC at h3; rw [decide_eq_true_eq] at h3; exact h3.1
    omega
   have HEL : Hid ((pack (enc ll ls)).length <= 100000) := by
    show _ <= _
    rw [zc9]
    have := enc_le (LOk.of HM.out) ls
    have := H2.out
    omega
   clear hb5 hf5 hok hol hsh HIR BC
   go_wp2_with fail
   refine (zgm9 lv ll w5 O5.out.rd HMB.out).mono ?_
   rintro e w6 ⟨tv, rfl, hot, hb6, hf6⟩
   have T6 : Hid (Owns .u8 5 w6 tv (pack (ptBits ll))) := hot
   have O6 : Hid (Owns .i64 3 w6 lv ll) := O5.out.below hb6
   have B6 : Hid (Below w3.heap.size w3 w6) := B5.out.trans (hb6.mono B5.out.size)
   have R6 : Hid (Rd .u8 w6 (.slice (some ⟨ab, ao, none⟩) q cap) ls) := HR.out.below (BW3.out.trans (B6.out.mono BW3.out.size))
   clear hot hb6 hf6 O5 B5
   go_wp2_with fail
   refine (zjz9 lv _ ll ls w6 O6.out.rd HMB.out R6.out H1.out H2.out HY.out HPOS.out).mono ?_
   rintro e w7 ⟨ev, rfl, hoe, hb7, hf7⟩
   have E7 : Hid (Owns .u8 5 w7 ev (pack (enc ll ls))) := hoe
   have T7 : Hid (Owns .u8 5 w7 tv (pack (ptBits ll))) := T6.out.below hb7
   have B7 : Hid (Below w3.heap.size w3 w7) := B6.out.trans (hb7.mono B6.out.size)
   clear hoe hb7 hf7 O6 B6 T6 R6
   obtain ⟨T, hT⟩ : ∃ T, Hid (pack (ptBits ll) = T) := ⟨_, rfl⟩
   obtain ⟨Y, hY⟩ : ∃ Y, Hid (pack (enc ll ls) = Y) := ⟨_, rfl⟩
   rw [hT.out] at T7 HPL
   rw [hY.out] at E7 HEL
   have HC : Hid (Cdd ls (T ++ digits (Y.length : Int) ++ Y)) := ⟨ds, HSH.out, by rw [hll.out]; exact HM.out, by rw [hll.out]; exact HPOS.out, by rw [hll.out, hT.out, hY.out]⟩
   obtain ⟨yl, hyl⟩ : ∃ yl, Y.length = yl := ⟨_, rfl⟩
   have HYL : Hid (Y.length = yl) := hyl
   have hyl2 : yl <= 100000 := by rw [<- hyl]; exact HEL.out
   obtain ⟨tl, htl⟩ : ∃ tl, T.length = tl := ⟨_, rfl⟩
   have HTL : Hid (T.length = tl) := htl
   have htl2 : tl <= 600 := by rw [<- htl]; exact HPL.out
   obtain ⟨ea, ec, rfl, _⟩ := E7.out.rd
   rw [hyl] at E7 HC
   rw [hyl]
   clear hyl htl HPL HEL hT hY HMB HM HPOS HSH hll
   go_wp2_with (at_builtin; refine zd9 w7 rfl (.tmp 57) (.tmp 58) 22 rfl 5 .u8 1 elem8 (.slice none 0 0) [] rfl (zf9 _ _ _) 1 rfl (by simp) (by simp) ?_)
   intro v8 w8 ho8 hg8
   have O8 : Hid (Owns .u8 5 w8 v8 [1]) := ho8
   have B8 : Hid (Below w7.heap.size w7 w8) := hg8.below.1
   have N8 : Hid (∀ k, v8.ownBlock = some k -> w7.heap.size <= k) := hg8.below.2
   have T8 : Hid (Owns .u8 5 w8 tv T) := T7.out.below B8.out
   clear ho8 hg8
   go_wp2_with (at_builtin; refine zb9 w8 rfl (.tmp 60) (.tmp 61) 22 rfl 5 .u8 1 elem8 v8 [1] rfl O8.out tv T rfl T8.out.rd (by rw [HTL.out]; simp; omega) (by rw [HTL.out]; simp; omega) ?_)
   intro v9 w9 ho9 hg9
   have h9 := hg9.onto B8.out N8.out
   have O9 : Hid (Owns .u8 5 w9 v9 ([1] ++ T)) := ho9
   have B9 : Hid (Below w7.heap.size w7 w9) := h9.1
   have HL9 : Hid (([1] ++ T).length <= 700) := by show _ <= _; rw [List.length_append, HTL.out]; simp; omega
   clear ho9 hg9 h9 O8 B8 N8 T8
   go_wp2_with fail
   refine (zam9 v9 ([1] ++ T) yl w9 O9.out.rd (by have := HL9.out; omega) (by omega)).mono ?_
   rintro e w10 ⟨v10, rfl, ho10, hb10, hf10⟩
   have O10 : Hid (Owns .u8 5 w10 v10 ([1] ++ T ++ digits (yl : Int))) := ho10
   have B10 : Hid (Below w7.heap.size w7 w10) := B9.out.trans (hb10.mono B9.out.size)
   have N10 : Hid (∀ k, v10.ownBlock = some k -> w7.heap.size <= k) := fun k hk => by have := hf10 k hk; have := B9.out.size; omega
   have E10 : Hid (Rd .u8 w10 (.slice ea yl ec) Y) := E7.out.rd.below B10.out
   have HL10 : Hid (([1] ++ T ++ digits (yl : Int)).length <= 800) := by
    show _ <= _
    rw [List.length_append]
    have := ze9 (yl : Int)
    have := HL9.out
    omega
   obtain ⟨X10, hX10⟩ : ∃ X10 : List Int, [1] ++ T ++ digits (yl : Int) = X10 := ⟨_, rfl⟩
   have HX10 : Hid ([1] ++ T ++ digits (yl : Int) = X10) := hX10
   rw [hX10] at O10 HL10
   clear ho10 hb10 hf10 O9 B9 hX10
   go_wp2_with (at_builtin; refine zb9 w10 rfl (.tmp 67) (.tmp 68) 22 rfl 5 .u8 1 elem8 v10 X10 rfl O10.out (.slice ea yl ec) Y rfl E10.out (by rw [HYL.out]; have := HL10.out; omega) (by rw [HYL.out]; have := HL10.out; omega) ?_)
   intro v11 w11 ho11 hg11
   have h11 := hg11.onto B10.out N10.out
   obtain ⟨X, hX0⟩ : ∃ X : List Int, X10 ++ Y = X := ⟨_, rfl⟩
   have hX : Hid (X10 ++ Y = X) := hX0
   rw [hX0] at ho11
   clear hX0
   have O11 : Hid (Owns .u8 5 w11 v11 X) := ho11
   have B11 : Hid (Below w3.heap.size w3 w11) := B7.out.trans (h11.1.mono B7.out.size)
   have P11 : Hid (Owns .u8 5 w11 v3 ([0] ++ ls)) := O3.out.below B11.out
   have D11 : Hid (Owns .u8 5 w11 v1 (digits (q : Int))) := O1.out.below (B3.out.trans (B11.out.mono B3.out.size))
   have BW11 : Hid (Below w.heap.size w w11) := BW3.out.trans (B11.out.mono BW3.out.size)
   obtain ⟨xl, hxl⟩ : ∃ xl, X.length = xl := ⟨_, rfl⟩
   have HXL : Hid (X.length = xl) := hxl
   have HXL2 : Hid (xl <= 110000) := by
    show _ <= _
    rw [<- hxl, <- hX.out, List.length_append, HYL.out]
    have := HL10.out
    omega
   have HXC : Hid (X = [1] ++ (T ++ digits (yl : Int) ++ Y)) := by show _ = _; rw [<- hX.out, <- HX10.out]; simp [List.append_assoc]
   have hxc : xl = 1 + (T ++ digits (yl : Int) ++ Y).length := by rw [<- hxl, HXC.out, List.length_append]; rfl
   obtain ⟨cl, hcl⟩ : ∃ cl, (T ++ digits (yl : Int) ++ Y).length = cl := ⟨_, rfl⟩
   have HCL : Hid ((T ++ digits (yl : Int) ++ Y).length = cl) := hcl
   rw [hcl] at hxc
   obtain ⟨xa, xc, rfl, _⟩ := O11.out.rd
   obtain ⟨pa, pc, rfl, _⟩ := P11.out.rd
   rw [hxl] at O11 ⊢
   have hpl : ([0] ++ ls).length = q + 1 := by rw [List.length_append, HQ.out]; simp; omega
   rw [hpl] at P11 ⊢
   have hdl := ze9 (q : Int)
   clear ho11 hg11 h11 O10 B10 N10 E10 hX hxl hcl hpl E7 T7 B7 O3 O1
   have hxl2 := HXL2.out
   by_cases hsh : xl < q + 1
   ·have hI : (xl : Int) < (q : Int) + 1 := by omega
    have HB : Hid (LitR ls (digits (q : Int) ++ X)) := ⟨_, HC.out, by rw [HCL.out, HQ.out, if_pos (by omega), <- HXC.out]⟩
    go_wp2_with (at_builtin; refine zb9 w11 rfl (.tmp 76) (.tmp 77) 22 rfl 5 .u8 1 elem8 v1 (digits (q : Int)) rfl D11.out (.slice xa xl xc) X rfl O11.out.rd (by rw [HXL.out]; omega) (by rw [HXL.out]; omega) ?_)
    intro v12 w12 ho12 hg12
    have h12 := hg12.onto BW11.out N1.out
    have O12 : Hid (Owns .u8 5 w12 v12 (digits (q : Int) ++ X)) := ho12
    have B12 : Hid (Below w.heap.size w w12) := h12.1
    have N12 : Hid (∀ k, v12.ownBlock = some k -> w.heap.size <= k) := h12.2
    clear ho12 hg12 h12
    go_wp2_with fail
    go_ret
    exact ⟨v12, _, rfl, HB.out, O12.out, B12.out, N12.out⟩
   ·have hI : ¬ (xl : Int) < (q : Int) + 1 := by omega
    have HB : Hid (LitR ls (digits (q : Int) ++ ([0] ++ ls))) := ⟨_, HC.out, by rw [HCL.out, HQ.out, if_neg (by omega)]⟩
    go_wp2_with (at_builtin; refine zb9 w11 rfl (.tmp 76) (.tmp 77) 22 rfl 5 .u8 1 elem8 v1 (digits (q : Int)) rfl D11.out (.slice pa (q + 1) pc) ([0] ++ ls) rfl P11.out.rd (by rw [List.length_append, HQ.out]; simp; omega) (by rw [List.length_append, HQ.out]; simp; omega) ?_)
    intro v12 w12 ho12 hg12
    have h12 := hg12.onto BW11.out N1.out
    have O12 : Hid (Owns .u8 5 w12 v12 (digits (q : Int) ++ ([0] ++ ls))) := ho12
    have B12 : Hid (Below w.heap.size w w12) := h12.1
    have N12 : Hid (∀ k, v12.ownBlock = some k -> w.heap.size <= k) := h12.2
    clear ho12 hg12 h12
    go_wp2_with fail
    go_ret
    exact ⟨v12, _, rfl, HB.out, O12.out, B12.out, N12.out⟩
end Go.Proofs.YtobenjkacpipeaaGreat
namespace Go.Proofs.YtobenjkacpipeaaGreat
open Go.RowKit Pl
theorem zlz9 (x : Sq) : ∀ k, Bits (rstK x k)
 | 0 => Bits.nil
 | k + 1 => zgr9 (zlz9 x k) (zan9 _ _)
theorem zlr9 (ps : List Sq) : ∀ k, Bits (rsts ps k)
 | 0 => Bits.nil
 | k + 1 => zgr9 (zlr9 ps k) (zlz9 _ _)
theorem ok_atR {ps : List Sq} (h : ∀ x ∈ ps, SqOk x) {i : Nat} (hi : i < ps.length) : SqOk (ps.getD i sq0) := by
 rw [List.getD_eq_getElem?_getD, List.getElem?_eq_getElem hi]
 exact h _ (List.getElem_mem _)
theorem zkh9 (sv : Value) (ps : List Sq) (w : World) (hr : RdS w sv ps) (hok : ∀ x ∈ ps, SqOk x) (h1 : 1 <= ps.length) (h2 : ps.length <= 16384) :
  Calls Tryz.prog 20 #[sv] w fun e w' => ∃ v', e = .returned v' /\ Owns .u8 5 w' v' (stpB ps) /\ Below w.heap.size w w' /\ ∀ k, v'.ownBlock = some k -> w.heap.size <= k := by
 have HOK : Hid (∀ x ∈ ps, SqOk x) := hok
 have HCO : Hid (∀ i, i < 3 -> CodOk (cods i ps)) := fun i hi => zqi9 hi hok h1 h2
 have HSL : Hid (∀ i, i <= 3 -> (strs ps i).length <= 100300 * i) := zhi9 hok h1 h2
 have HRL : Hid (∀ k, k <= ps.length -> (rsts ps k).length <= 45 * k) := zdl9 hok
 obtain ⟨a, cap, rfl, hlc, hcm, hcc⟩ := hr
 obtain ⟨ab, ao, rfl, hcell⟩ : ∃ b o, a = some ⟨b, o, none⟩ /\ ∀ i, i < ps.length -> w.cell? ⟨b, o + i * 3, none⟩ = some (.int .i64 (ps.getD i sq0).1) /\ w.cell? ⟨b, o + i * 3 + 1, none⟩ = some (.int .i64 (ps.getD i sq0).2.1) /\ w.cell? ⟨b, o + i * 3 + 2, none⟩ = some (.int .i64 (ps.getD i sq0).2.2) := by
  rcases hcc with h | h
  ·rw [h] at h1; simp at h1
  ·exact h
 have HCELL : Hid (∀ i, i < ps.length -> w.cell? ⟨ab, ao + i * 3, none⟩ = some (.int .i64 (ps.getD i sq0).1) /\ w.cell? ⟨ab, ao + i * 3 + 1, none⟩ = some (.int .i64 (ps.getD i sq0).2.1) /\ w.cell? ⟨ab, ao + i * 3 + 2, none⟩ = some (.int .i64 (ps.getD i sq0).2.2)) := hcell
 have HST : Hid (stpB ps = digits (ps.length : Int) ++ strs ps 3 ++ digits (pack (rsts ps ps.length)).length ++ pack (rsts ps ps.length)) := by show _ = _; unfold stpB; rw [if_neg (by omega)]
 rw [HST.out]
 obtain ⟨n, hn⟩ : ∃ n, ps.length = n := ⟨_, rfl⟩
 have HN : Hid (ps.length = n) := hn
 rw [hn] at h1 h2 hlc HCELL HRL ⊢
 clear hcc hcell hok hn HST
 obtain ⟨Z, hZ⟩ : ∃ Z, Hid (pack (rsts ps n) = Z) := ⟨_, rfl⟩
 rw [hZ.out]
 have hcm2 : cap <= 9223372036854775807 := by unfold maxLen at hcm; omega
 clear hcm
 have hn0 : ((n : Int) == 0) = false := by rw [beq_eq_false_iff_ne]; omega
 go_enter Tryz.func20, Tryz.ntmps20
 go_wp2_with fail
 refine (zam9 _ [] n w ⟨none, 0, rfl, Nat.le_refl _, by unfold maxLen; omega, fun _ => rfl, .inl rfl⟩ (by simp) (by omega)).mono ?_
 rintro e w1 ⟨v1, rfl, ho1, hb1, hf1⟩
 rw [List.nil_append] at ho1
 have O1 : Hid (Owns .u8 5 w1 v1 (digits (n : Int) ++ strs ps 0)) := by show Owns _ _ _ _ _; simp only [strs, List.append_nil]; exact ho1
 have B1 : Hid (Below w.heap.size w w1) := hb1
 have N1 : Hid (∀ k, v1.ownBlock = some k -> w.heap.size <= k) := hf1
 clear ho1 hb1 hf1
 go_wp2_with fail
 go_loopw [3, 4] (fun o i wr => ∃ (j : Nat) (ov : Value), j <= 3 /\ i = .int .i64 j /\ ov = o /\ Hid (Owns .u8 5 wr ov (digits (n : Int) ++ strs ps j)) /\ Hid (∀ k, ov.ownBlock = some k -> w.heap.size <= k) /\ Hid (Below w.heap.size w wr)) (fun _ i _ => 3 - (intOf i).toNat)
 case atStart => exact ⟨0, _, by omega, rfl, rfl, O1, N1, B1⟩
 case round =>
  clear O1 N1 B1
  obtain ⟨j, ov, hj, rfl, rfl, OO, NO, BO⟩ := hrel
  rename World => wo
  by_cases hj3 : j < 3
  ·have hjI : (j : Int) < 3 := by omega
   have HC1 := HCO.out j hj3
   have HCL : Hid ((cods j ps).length = n) := by show _ = _; rw [<- HN.out]; simp [cods]
   have HCA : Hid (∀ k, k < n -> (cods j ps).getD k 0 = (cOf (vOf j (ps.getD k sq0)) : Int)) := fun k hk => zup9 j ps k (by have := HN.out; omega)
   have HSJ : Hid (strs ps (j + 1) = strs ps j ++ strR (cods j ps)) := rfl
   obtain ⟨cs, hcs⟩ : ∃ cs, Hid (cods j ps = cs) := ⟨_, rfl⟩
   rw [hcs.out] at HC1 HCL HCA HSJ
   have HSTR : Hid ((shR (cts17 cs) 6).1 = 0 /\ mayS (shR (cts17 cs) 6).2 6 = true /\ (putR (shR (cts17 cs) 6).2 6).1 = 0 /\ (encR (shR (cts17 cs) 6).2 6 cs).1 = 0 /\ (putR (shR (cts17 cs) 6).2 6).2.length <= 200 /\ (encR (shR (cts17 cs) 6).2 6 cs).2.length <= 100000) := by
    obtain ⟨q1, q2, _, q4, q5, _, q7, q8⟩ := HC1.str
    exact ⟨q1, q2, q4, q5, q7, q8⟩
   have HSR : Hid (strR cs = (putR (shR (cts17 cs) 6).2 6).2 ++ digits (encR (shR (cts17 cs) 6).2 6 cs).2.length ++ (encR (shR (cts17 cs) 6).2 6 cs).2) := rfl
   clear HC1
   obtain ⟨j0, hq, hy0, hy1, hy2⟩ := elem64.info
   go_wp2_with (at_make; refine wpList_make_full _ rfl (.const (.int .i64 17)) (.const (.int .i64 17)) 56 rfl 0 3 j0 _ 1 Tryz.underlying56 hq hy0 hy1 .i64 .i64 _ _ 17 rfl rfl rfl rfl (by rw [hy2]; omega) (by unfold maxLen; omega) (Nat.zero_le _) ?_)
   intro w4 ho4 hg4
   have b4 : Below wo.heap.size wo w4 := (Below.refl _ _).grown hg4 (Nat.le_refl _) (fun k e => by cases e)
   obtain ⟨g, hg⟩ : ∃ g, wo.heap.size = g := ⟨_, rfl⟩
   have HG : Hid (wo.heap.size = g) := hg
   have O4 : Hid (Owns .i64 3 w4 (.slice (some ⟨g, 0, none⟩) 17 17) ((List.range 17).map (ctN cs 0))) := by
    show w4.ownsRow _ _ _ _ _ _
    rw [toList_madeCells_one, hg] at ho4
    rw [rng0]
    simp only [List.length_replicate, List.map_replicate]
    exact ho4
   have HG4 : Hid (g < w4.heap.size) := O4.out.lt g rfl
   have B4 : Hid (Below wo.heap.size wo w4) := b4
   rw [hg]
   clear ho4 hg4 b4 hq hy0 hy1 hy2 hg
   go_wp2_with fail
   go_loopw [6, 7] (fun c i wq => ∃ (k : Nat) (cv : Value), k <= n /\ i = .int .i64 k /\ cv = c /\ Hid (Owns .i64 3 wq (.slice (some ⟨g, 0, none⟩) 17 17) ((List.range 17).map (ctN cs k))) /\ Hid (Owns .i64 3 wq cv (cs.take k)) /\ Hid (∀ k, cv.ownBlock = some k -> w4.heap.size <= k) /\ Hid (w4.heap.size <= wq.heap.size) /\ Hid (Below wo.heap.size wo wq)) (fun _ i _ => n - (intOf i).toNat)
   case atStart => exact ⟨0, _, Nat.zero_le _, rfl, rfl, O4, zf9 _ _ _, (fun k e => by cases e), Nat.le_refl _, B4⟩
   case round =>
    clear O4 B4
    obtain ⟨k, cv, hk, rfl, rfl, OC, OV, NV, SZ, BC⟩ := hrel
    by_cases hlt : k < n
    ·have hki : (k : Int) < (n : Int) := by omega
     obtain ⟨x, hx⟩ : ∃ x, Hid (ps.getD k sq0 = x) := ⟨_, rfl⟩
     have hxok : SqOk x := by rw [<- hx.out]; exact ok_atR HOK.out (by have := HN.out; omega)
     have hcell := HCELL.out k hlt
     rw [hx.out] at hcell
     obtain ⟨q0, q1, q2⟩ := hcell
     have BWR : Hid (Below w.heap.size w wr) := BO.out.trans (BC.out.mono BO.out.size)
     have lift : ∀ off v, w.cell? ⟨ab, off, none⟩ = some v -> wr.cell? ⟨ab, off, none⟩ = some v := fun off v hv => by
      rw [BWR.out.cell (p := ⟨ab, off, none⟩) (World.block_lt_of_cell? w ⟨ab, off, none⟩ hv)]; exact hv
     have k0 := lift _ _ q0
     have k1 := lift _ _ q1
     have k2 := lift _ _ q2
     have hca := HCA.out k hlt
     rw [hx.out] at hca
     obtain ⟨v, hv⟩ : ∃ v, Hid (vOf j x = v) := ⟨_, rfl⟩
     have hvb := hxok j hj3
     rw [hv.out] at hca hvb
     have hc16 := cOf_le hvb
     obtain ⟨c, hc⟩ : ∃ c, Hid (cOf v = c) := ⟨_, rfl⟩
     rw [hc.out] at hca hc16
     have HPT : Hid (∀ W : World, Calls Tryz.prog 37 #[.agg #[.int .i64 x.1, .int .i64 x.2.1, .int .i64 x.2.2], .int .i64 (j : Int)] W fun e w' => e = .returned (.int .i64 v) /\ Below W.heap.size W w') := fun W => by
      have := zel9 x j hj3 hxok W
      rw [hv.out] at this
      exact this
     have HCF : Hid (∀ W : World, Calls Tryz.prog 36 #[.int .i64 v] W fun e w' => e = .returned (.int .i64 (c : Int)) /\ w' = W) := fun W => by
      have := zft9 v W hvb
      rw [hc.out] at this
      exact this
     have HCX : Hid (cs.getD k 0 = (c : Int)) := hca
     obtain ⟨x1, x2, x3⟩ := x
     clear lift q0 q1 q2 hca hv hc hxok hvb
     go_wp2_with fail
     refine (HPT.out _).mono ?_
     rintro e w5 ⟨rfl, hb5⟩
     have OC5 : Hid (Owns .i64 3 w5 (.slice (some ⟨g, 0, none⟩) 17 17) ((List.range 17).map (ctN cs k))) := OC.out.below hb5
     have OV5 : Hid (Owns .i64 3 w5 cv (cs.take k)) := OV.out.below hb5
     have SZ5 : Hid (w4.heap.size <= w5.heap.size) := Nat.le_trans SZ.out hb5.size
     have B5 : Hid (Below wo.heap.size wo w5) := BC.out.trans (hb5.mono BC.out.size)
     clear hb5 OC OV BC BWR HPT k0 k1 k2
     go_wp2_with fail
     refine (HCF.out _).mono ?_
     rintro e w6 ⟨rfl, rfl⟩
     have hcc := OC5.out.at1 c (by simp; omega)
     obtain ⟨y, hye⟩ : ∃ y, Hid (ctN cs k c = y) := ⟨_, rfl⟩
     have hbd := ctN_bd cs k c
     have hgd : ((List.range 17).map (ctN cs k)).getD c 0 = y := by rw [<- hye.out, List.getD_eq_getElem?_getD]; simp [show c < 17 by omega]
     rw [hgd] at hcc
     rw [hye.out] at hbd
     obtain ⟨hcn, hfn, _⟩ := hcc
     have hti : Tch (fun k => k = g) w6 (w6.setCell ⟨g, c, none⟩ (.int .i64 (y + 1))) := (Tch.refl (fun k => k = g) w6).setCell (p := ⟨g, c, none⟩) (fun _ => rfl) _
     have HS6 : Hid ((w6.setCell ⟨g, c, none⟩ (.int .i64 (y + 1))).heap.size = w6.heap.size) := by show _ = _; simp
     have SZ6 : Hid (w4.heap.size <= (w6.setCell ⟨g, c, none⟩ (.int .i64 (y + 1))).heap.size) := Nat.le_trans SZ5.out hti.size
     have S2 : Hid (Owns .i64 3 (w6.setCell ⟨g, c, none⟩ (.int .i64 (y + 1))) (.slice (some ⟨g, 0, none⟩) 17 17) ((List.range 17).map (ctN cs (k + 1)))) := by
      have h := OC5.out.set c (y + 1)
      rw [zuw9 (g := ctN cs (k + 1)) (fun i => by
       simp only [ctN]
       rw [HCX.out]
       by_cases e : i = c
       ·subst e
        rw [if_pos rfl, if_pos rfl, hye.out]
       ·rw [if_neg e, if_neg (by omega)]
        omega)] at h
      exact h
     have V2 : Hid (Owns .i64 3 (w6.setCell ⟨g, c, none⟩ (.int .i64 (y + 1))) cv (cs.take k)) := OV5.out.tch hti (fun k hk e => by have := NV.out k hk; have := HG4.out; omega)
     have B6 : Hid (Below wo.heap.size wo (w6.setCell ⟨g, c, none⟩ (.int .i64 (y + 1)))) := B5.out.trans (hti.below B5.out.size (fun k e => by rw [e, HG.out]; exact Nat.le_refl _))
     have HTK : Hid (cs.take (k + 1) = cs.take k ++ [(c : Int)]) := by show _ = _; rw [take_snoc' cs k (by have := HCL.out; omega), HCX.out]
     have HTL : Hid ((cs.take k).length <= 16384) := by show _ <= _; rw [List.length_take]; have := HCL.out; omega
     have hi0 : (0 : Int) <= (c : Int) := by omega
     have hi1 : (c : Int) < 17 := by omega
     clear hti OC5 OV5 B5 hgd HCF
     go_wp2_with (at_builtin; refine zd9 (w6.setCell ⟨g, c, none⟩ (.int .i64 (y + 1))) rfl (.tmp 52) (.tmp 54) 56 rfl 3 .i64 8 elem64 cv (cs.take k) rfl V2.out (c : Int) (by rw [HS6.out]; rfl) (by have := HTL.out; omega) (by have := HTL.out; omega) ?_)
     intro v8 w8 ho8 hg8
     rw [<- HTK.out] at ho8
     have O8 : Hid (Owns .i64 3 w8 v8 (cs.take (k + 1))) := ho8
     have S8 : Hid (Owns .i64 3 w8 (.slice (some ⟨g, 0, none⟩) 17 17) ((List.range 17).map (ctN cs (k + 1)))) := S2.out.tch hg8.tch (fun k hk e => by
      cases hk
      have := NV.out g e
      have := HG4.out
      omega)
     have B8 : Hid (Below wo.heap.size wo w8) := B6.out.trans (hg8.tch.below B6.out.size (fun k e => by have := NV.out k e; have := HG4.out; have := HG.out; omega))
     have N8 : Hid (∀ k, v8.ownBlock = some k -> w4.heap.size <= k) := fun k hk => by
      rcases hg8.fresh k hk with e | e
      ·exact NV.out k e
      ·have := SZ6.out; omega
     have SZ8 : Hid (w4.heap.size <= w8.heap.size) := Nat.le_trans SZ6.out hg8.tch.size
     clear ho8 hg8 S2 V2 B6 NV
     go_wp2_with fail
     go_roundw
     case rel => exact ⟨k + 1, v8, by omega, by go_num, rfl, S8, O8, N8, SZ8, B8⟩
     case measure => simp [intOf]; omega
    ·have hkn : ¬ (k : Int) < (n : Int) := by omega
     have HIR : Hid (Rd .i64 wr (.slice (some ⟨g, 0, none⟩) 17 17) (cts17 cs)) := by
      have h := OC.out.rd
      rw [show k = cs.length by have := HCL.out; omega] at h
      exact h
     have HV : Hid (Owns .i64 3 wr cv cs) := by
      have h := OV.out
      rw [List.take_of_length_le (by have := HCL.out; omega)] at h
      exact h
     clear OC OV NV SZ HCA
     go_wp2_with fail
     refine (zky9 _ (cts17 cs) 6 wr HIR.out).mono ?_
     rintro e w5 ⟨d5, rfl, hb5, hf5, ho5⟩
     obtain ⟨S, hS⟩ : ∃ S, Hid ((shR (cts17 cs) 6).2 = S) := ⟨_, rfl⟩
     rw [hS.out] at ho5 HSTR HSR
     obtain ⟨e1, e2, e3, e4, e5, e6⟩ := HSTR.out
     rw [e1]
     have O5 : Hid (Owns .i64 3 w5 d5 S) := ho5
     have V5 : Hid (Owns .i64 3 w5 cv cs) := HV.out.below hb5
     have B5 : Hid (Below wo.heap.size wo w5) := BC.out.trans (hb5.mono BC.out.size)
     have E3 : Hid ((putR S 6).1 = 0) := e3
     have E4 : Hid ((encR S 6 cs).1 = 0) := e4
     have E5 : Hid ((putR S 6).2.length <= 200) := e5
     have E6 : Hid ((encR S 6 cs).2.length <= 100000) := e6
     clear e1 e2 e3 e4 e5 e6 HSTR hb5 hf5 ho5 HIR HV BC hS
     go_wp2_with fail
     refine (zfp9 d5 S 6 w5 O5.out.rd).mono ?_
     rintro e w6 ⟨d6, rfl, hb6, hf6, ho6⟩
     rw [E3.out]
     obtain ⟨T, hT⟩ : ∃ T, Hid ((putR S 6).2 = T) := ⟨_, rfl⟩
     rw [hT.out] at ho6 HSR E5
     have O6 : Hid (Owns .i64 3 w6 d5 S) := O5.out.below hb6
     have V6 : Hid (Owns .i64 3 w6 cv cs) := V5.out.below hb6
     have T6 : Hid (Owns .u8 5 w6 d6 T) := ho6
     have HTO6 : Hid (∀ k, d6.ownBlock = some k -> wo.heap.size <= k) := fun k hk => by have := hf6 k hk; have := B5.out.size; omega
     have B6 : Hid (Below wo.heap.size wo w6) := B5.out.trans (hb6.mono B5.out.size)
     clear hb6 hf6 ho6 O5 V5 B5 E3 hT
     go_wp2_with fail
     refine (zio9 d5 cv S cs 6 w6 O6.out.rd V6.out.rd).mono ?_
     rintro e w7 ⟨d7, rfl, hb7, hf7, ho7⟩
     rw [E4.out]
     obtain ⟨Y, hY⟩ : ∃ Y, Hid ((encR S 6 cs).2 = Y) := ⟨_, rfl⟩
     rw [hY.out] at ho7 HSR E6
     have T7 : Hid (Owns .u8 5 w7 d6 T) := T6.out.below hb7
     have Y7 : Hid (Owns .u8 5 w7 d7 Y) := ho7
     have B7 : Hid (Below wo.heap.size wo w7) := B6.out.trans (hb7.mono B6.out.size)
     have OO7 : Hid (Owns .u8 5 w7 ov (digits (n : Int) ++ strs ps j)) := OO.out.below B7.out
     have BW7 : Hid (Below w.heap.size w w7) := BO.out.trans (B7.out.mono BO.out.size)
     have HTO : Hid (∀ k, d6.ownBlock = some k -> wo.heap.size <= k) := fun k hk => HTO6.out k hk
     have HYO : Hid (∀ k, d7.ownBlock = some k -> wo.heap.size <= k) := fun k hk => by have := hf7 k hk; have := B6.out.size; omega
     clear hb7 hf7 ho7 O6 V6 T6 B6 E4 hY
     obtain ⟨ya, yc, rfl, _⟩ := Y7.out.rd
     obtain ⟨yl, hyl⟩ : ∃ yl, Y.length = yl := ⟨_, rfl⟩
     have HYL : Hid (Y.length = yl) := hyl
     have hyl2 : yl <= 100000 := by rw [<- hyl]; exact E6.out
     rw [hyl] at Y7 HSR HYO ⊢
     have HOL : Hid ((digits (n : Int) ++ strs ps j).length <= 300910) := by
      show _ <= _
      rw [List.length_append]
      have := ze9 (n : Int)
      have := HSL.out j (by omega)
      omega
     have HTL : Hid (T.length <= 200) := E5.out
     obtain ⟨X, hX⟩ : ∃ X : List Int, digits (n : Int) ++ strs ps j = X := ⟨_, rfl⟩
     have HX : Hid (digits (n : Int) ++ strs ps j = X) := hX
     rw [hX] at OO7 HOL
     clear hyl E5 E6 hX
     go_wp2_with (at_builtin; refine zb9 w7 rfl (.tmp 72) (.tmp 73) 22 rfl 5 .u8 1 elem8 ov X rfl OO7.out d6 T rfl T7.out.rd (by have := HOL.out; have := HTL.out; omega) (by have := HOL.out; have := HTL.out; omega) ?_)
     intro v8 w8 ho8 hg8
     have h8 := hg8.onto BW7.out NO.out
     have O8 : Hid (Owns .u8 5 w8 v8 (X ++ T)) := ho8
     have Y8 : Hid (Owns .u8 5 w8 (.slice ya yl yc) Y) := Y7.out.tch hg8.tch (fun k hk e => by
      have h1 := HYO.out k hk
      have h2 := OO.out.lt k e
      omega)
     have B8 : Hid (Below w.heap.size w w8) := h8.1
     have HL8 : Hid ((X ++ T).length <= 301200) := by show _ <= _; rw [List.length_append]; have := HOL.out; have := HTL.out; omega
     clear ho8 hg8 h8
     go_wp2_with fail
     refine (zam9 v8 (X ++ T) yl w8 O8.out.rd (by have := HL8.out; omega) (by omega)).mono ?_
     rintro e w9 ⟨v9, rfl, ho9, hb9, hf9⟩
     obtain ⟨X9, hX9⟩ : ∃ X9 : List Int, X ++ T ++ digits (yl : Int) = X9 := ⟨_, rfl⟩
     have HX9 : Hid (X ++ T ++ digits (yl : Int) = X9) := hX9
     have HL9 : Hid (X9.length <= 301300) := by
      show _ <= _
      rw [<- hX9, List.length_append]
      have := ze9 (yl : Int)
      have := HL8.out
      omega
     rw [hX9] at ho9
     have O9 : Hid (Owns .u8 5 w9 v9 X9) := ho9
     have Y9 : Hid (Owns .u8 5 w9 (.slice ya yl yc) Y) := Y8.out.below hb9
     have B9 : Hid (Below w.heap.size w w9) := B8.out.trans (hb9.mono B8.out.size)
     have N9 : Hid (∀ k, v9.ownBlock = some k -> w.heap.size <= k) := fun k hk => by have := hf9 k hk; have := B8.out.size; omega
     clear ho9 hb9 hf9 hX9 O8 Y8 B8
     go_wp2_with (at_builtin; refine zb9 w9 rfl (.tmp 79) (.tmp 80) 22 rfl 5 .u8 1 elem8 v9 X9 rfl O9.out (.slice ya yl yc) Y rfl Y9.out.rd (by rw [HYL.out]; have := HL9.out; omega) (by rw [HYL.out]; have := HL9.out; omega) ?_)
     intro v10 w10 ho10 hg10
     have h10 := hg10.onto B9.out N9.out
     have O10 : Hid (Owns .u8 5 w10 v10 (digits (n : Int) ++ strs ps (j + 1))) := by
      rw [HSJ.out, HSR.out, <- List.append_assoc, HX.out]
      rw [<- HX9.out] at ho10
      simpa [Hid, List.append_assoc] using ho10
     have B10 : Hid (Below w.heap.size w w10) := h10.1
     have N10 : Hid (∀ k, v10.ownBlock = some k -> w.heap.size <= k) := h10.2
     clear ho10 hg10 h10
     go_wp2_with fail
     first
      | exact ⟨⟨j + 1, v10, by omega, by go_num, rfl, O10, N10, B10⟩, by simp [intOf]; omega⟩
      | (go_roundw
         case rel => exact ⟨j + 1, v10, by omega, by go_num, rfl, O10, N10, B10⟩
         case measure => simp [intOf]; omega)
  ·have hj3n : ¬ (j : Int) < 3 := by omega
   have O3 : Hid (Owns .u8 5 wo ov (digits (n : Int) ++ strs ps 3)) := by
    have h := OO.out
    rw [show j = 3 by omega] at h
    exact h
   clear OO
   go_wp2_with fail
   go_loopw [15, 16] (fun r i wq => ∃ (k : Nat) (rv : Value), k <= n /\ i = .int .i64 k /\ rv = r /\ Hid (Owns .i64 3 wq rv (rsts ps k)) /\ Hid (∀ k, rv.ownBlock = some k -> wo.heap.size <= k) /\ Hid (Below wo.heap.size wo wq)) (fun _ i _ => n - (intOf i).toNat)
   case atStart => exact ⟨0, _, Nat.zero_le _, rfl, rfl, zf9 _ _ _, (fun k e => by cases e), Below.refl _ _⟩
   case round =>
    obtain ⟨k, rv, hk, rfl, rfl, OR, NR, BR⟩ := hrel
    rename World => wi
    by_cases hlt : k < n
    ·have hki : (k : Int) < (n : Int) := by omega
     obtain ⟨x, hx⟩ : ∃ x, Hid (ps.getD k sq0 = x) := ⟨_, rfl⟩
     have hxok : SqOk x := by rw [<- hx.out]; exact ok_atR HOK.out (by have := HN.out; omega)
     have HXOK : Hid (SqOk x) := hxok
     have hcell := HCELL.out k hlt
     rw [hx.out] at hcell
     have HQ : Hid (w.cell? ⟨ab, ao + k * 3, none⟩ = some (.int .i64 x.1) /\ w.cell? ⟨ab, ao + k * 3 + 1, none⟩ = some (.int .i64 x.2.1) /\ w.cell? ⟨ab, ao + k * 3 + 2, none⟩ = some (.int .i64 x.2.2)) := hcell
     have HRS : Hid (rsts ps (k + 1) = rsts ps k ++ rstK x 3) := by show _ = _; simp only [rsts]; rw [hx.out]
     have HRL1 : Hid ((rsts ps k).length <= 45 * 16384) := by show _ <= _; have := HRL.out k hk; omega
     have HKL : Hid (∀ m, m <= 3 -> (rstK x m).length <= 15 * m) := zhb9 HXOK.out
     have S0 : Hid (Owns .i64 3 wi rv (rsts ps k ++ rstK x 0)) := by show Owns _ _ _ _ _; simp only [rstK, List.append_nil]; exact OR.out
     clear hcell hxok OR
     obtain ⟨R, hR⟩ : ∃ R, Hid (rsts ps k = R) := ⟨_, rfl⟩
     rw [hR.out] at HRS HRL1 S0
     go_wp2_with fail
     go_loopw [15, 17] (fun r i wq => ∃ (m : Nat) (rv : Value), m <= 3 /\ i = .int .i64 m /\ rv = r /\ Hid (Owns .i64 3 wq rv (R ++ rstK x m)) /\ Hid (∀ k, rv.ownBlock = some k -> wo.heap.size <= k) /\ Hid (Below wo.heap.size wo wq)) (fun _ i _ => 3 - (intOf i).toNat)
     case atStart => exact ⟨0, _, by omega, rfl, rfl, S0, NR, BR⟩
     case round =>
      clear S0 NR BR
      obtain ⟨m, sv, hm, rfl, rfl, OS, NS, BS⟩ := hrel
      by_cases hm3 : m < 3
      ·have hmI : (m : Int) < 3 := by omega
       have BWR : Hid (Below w.heap.size w wr) := BO.out.trans (BS.out.mono BO.out.size)
       have lift : ∀ off v, w.cell? ⟨ab, off, none⟩ = some v -> wr.cell? ⟨ab, off, none⟩ = some v := fun off v hv => by
        rw [BWR.out.cell (p := ⟨ab, off, none⟩) (World.block_lt_of_cell? w ⟨ab, off, none⟩ hv)]; exact hv
       have k0 := lift _ _ HQ.out.1
       have k1 := lift _ _ HQ.out.2.1
       have k2 := lift _ _ HQ.out.2.2
       obtain ⟨v, hv⟩ : ∃ v, Hid (vOf m x = v) := ⟨_, rfl⟩
       have hvb := HXOK.out m hm3
       rw [hv.out] at hvb
       have hc16 := cOf_le hvb
       obtain ⟨c, hc⟩ : ∃ c, Hid (cOf v = c) := ⟨_, rfl⟩
       rw [hc.out] at hc16
       have HPT : Hid (∀ W : World, Calls Tryz.prog 37 #[.agg #[.int .i64 x.1, .int .i64 x.2.1, .int .i64 x.2.2], .int .i64 (m : Int)] W fun e w' => e = .returned (.int .i64 v) /\ Below W.heap.size W w') := fun W => by
        have := zel9 x m hm3 HXOK.out W
        rw [hv.out] at this
        exact this
       have HCF : Hid (∀ W : World, Calls Tryz.prog 36 #[.int .i64 v] W fun e w' => e = .returned (.int .i64 (c : Int)) /\ w' = W) := fun W => by
        have := zft9 v W hvb
        rw [hc.out] at this
        exact this
       obtain ⟨z, hz⟩ : ∃ z, rbs (c : Int) = z := ⟨_, rfl⟩
       have hzc : (z : Int) = max ((c : Int) - 1) 0 := by rw [<- hz]; unfold rbs; omega
       have HRK : Hid (rstK x (m + 1) = rstK x m ++ bitsOf v z) := by show _ = _; simp only [rstK, rst]; rw [hv.out, hc.out, hz]
       have hz15 : z <= 15 := by omega
       have HL1 : Hid ((R ++ rstK x m).length <= 800000) := by show _ <= _; rw [List.length_append]; have := HRL1.out; have := HKL.out m hm; omega
       obtain ⟨Q, hQ⟩ : ∃ Q, R ++ rstK x m = Q := ⟨_, rfl⟩
       have HQE : Hid (R ++ rstK x m = Q) := hQ
       rw [hQ] at OS HL1
       obtain ⟨x1, x2, x3⟩ := x
       clear lift hv hc hz hQ
       go_wp2_with fail
       refine (HPT.out _).mono ?_
       rintro e w5 ⟨rfl, hb5⟩
       have O5 : Hid (Owns .i64 3 w5 sv (Q ++ bitsOf v 0)) := by show Owns _ _ _ _ _; simp only [bitsOf, List.append_nil]; exact OS.out.below hb5
       have B5 : Hid (Below wo.heap.size wo w5) := BS.out.trans (hb5.mono BS.out.size)
       clear hb5 OS BS BWR HPT k0 k1 k2
       go_wp2_with fail
       go_loopw [15, 19] (fun r i wq => ∃ (t : Nat) (rv : Value), t <= z /\ i = .int .i64 t /\ rv = r /\ Hid (Owns .i64 3 wq rv (Q ++ bitsOf v t)) /\ Hid (∀ k, rv.ownBlock = some k -> wo.heap.size <= k) /\ Hid (Below wo.heap.size wo wq)) (fun _ i _ => z - (intOf i).toNat)
       case atStart => exact ⟨0, _, Nat.zero_le _, rfl, rfl, O5, NS, B5⟩
       case round =>
        clear O5 NS B5
        obtain ⟨t, tv, ht, rfl, rfl, OT, NT_, BT⟩ := hrel
        go_wp2_with fail
        refine (HCF.out _).mono ?_
        rintro e w6 ⟨rfl, rfl⟩
        by_cases htz : t < z
        ·have hI : (t : Int) < (c : Int) - 1 := by omega
         obtain ⟨X, rfl⟩ := Int.eq_ofNat_of_zero_le hvb.1
         obtain ⟨Y, hY⟩ : ∃ Y, X / 2 ^ t = Y := ⟨_, rfl⟩
         have hYX : Y <= X := by rw [<- hY]; exact Nat.div_le_self _ _
         have hYI : (X : Int) / 2 ^ t = (Y : Int) := by rw [<- hY, Int.natCast_ediv, Int.natCast_pow]; rfl
         obtain ⟨d, hd⟩ : ∃ d, Y % 2 = d := ⟨_, rfl⟩
         have hdI : (Y : Int) % 2 = (d : Int) := by omega
         have hdT : (Y : Int).tmod 2 = (d : Int) := by rw [Int.tmod_eq_emod_of_nonneg (by omega)]; exact hdI
         have HTK : Hid (Q ++ bitsOf (X : Int) (t + 1) = Q ++ bitsOf (X : Int) t ++ [(d : Int)]) := by
          show _ = _
          simp only [bitsOf]
          rw [hYI, hdI, List.append_assoc]
         have HLL : Hid ((Q ++ bitsOf (X : Int) t).length <= 900000) := by show _ <= _; rw [List.length_append, za9]; have := HL1.out; omega
         have ht0 : (0 : Int) <= (t : Int) := by omega
         have ht1 : (t : Int) <= 15 := by omega
         obtain ⟨U, hU⟩ : ∃ U : List Int, Q ++ bitsOf (X : Int) t = U := ⟨_, rfl⟩
         rw [hU] at OT HTK HLL
         clear hY hd hU
         go_wp2_with (at_builtin; refine zd9 _ rfl (.tmp 105) (.tmp 110) 56 rfl 3 .i64 8 elem64 _ U rfl OT.out (d : Int) rfl (by have := HLL.out; omega) (by have := HLL.out; omega) ?_)
         intro v3 w3 ho3 hg3
         rw [<- HTK.out] at ho3
         have O3' : Hid (Owns .i64 3 w3 v3 (Q ++ bitsOf (X : Int) (t + 1))) := ho3
         have h3 := hg3.onto BT.out NT_.out
         have B3' : Hid (Below wo.heap.size wo w3) := h3.1
         have N3' : Hid (∀ k, v3.ownBlock = some k -> wo.heap.size <= k) := h3.2
         clear ho3 hg3 h3 OT NT_ BT
         go_wp2_with fail
         go_roundw
         case rel => exact ⟨t + 1, v3, by omega, by go_num, rfl, O3', N3', B3'⟩
         case measure => simp [intOf]; omega
        ·have hI : ¬ (t : Int) < (c : Int) - 1 := by omega
         have OE : Hid (Owns .i64 3 w6 tv (R ++ rstK (x1, x2, x3) (m + 1))) := by
          have h := OT.out
          rw [show t = z by omega, <- HQE.out, List.append_assoc, <- HRK.out] at h
          exact h
         clear OT
         go_wp2_with fail
         first
          | exact ⟨⟨m + 1, tv, by omega, by go_num, rfl, OE, NT_, BT⟩, by simp [intOf]; omega⟩
          | (go_roundw
             case rel => exact ⟨m + 1, tv, by omega, by go_num, rfl, OE, NT_, BT⟩
             case measure => simp [intOf]; omega)
      ·have hmI : ¬ (m : Int) < 3 := by omega
       have OE : Hid (Owns .i64 3 wr sv (rsts ps (k + 1))) := by
        have h := OS.out
        rw [show m = 3 by omega, <- HRS.out] at h
        exact h
       clear OS
       go_wp2_with fail
       first
        | exact ⟨⟨k + 1, sv, by omega, by go_num, rfl, OE, NS, BS⟩, by simp [intOf]; omega⟩
        | (go_roundw
           case rel => exact ⟨k + 1, sv, by omega, by go_num, rfl, OE, NS, BS⟩
           case measure => simp [intOf]; omega)
    ·have hki : ¬ (k : Int) < (n : Int) := by omega
     have HRA : Hid (Owns .i64 3 wi rv (rsts ps n)) := by
      have h := OR.out
      rw [show k = n by omega] at h
      exact h
     have HRLN : Hid ((rsts ps n).length <= 45 * 16384) := by show _ <= _; have := HRL.out n (Nat.le_refl _); omega
     have HZL : Hid (Z.length <= 800000) := by show _ <= _; rw [<- hZ.out, zc9]; have := HRLN.out; omega
     clear OR NR
     go_wp2_with fail
     refine (zlf9 rv (rsts ps n) wi HRA.out.rd (zlr9 _ _) (by have := HRLN.out; omega)).mono ?_
     rintro e w5 ⟨v5, rfl, ho5, hg5⟩
     rw [hZ.out] at ho5
     have Z5 : Hid (Owns .u8 5 w5 v5 Z) := ho5
     have B5 : Hid (Below wo.heap.size wo w5) := BR.out.trans (hg5.below.1.mono BR.out.size)
     have O5 : Hid (Owns .u8 5 w5 ov (digits (n : Int) ++ strs ps 3)) := O3.out.below B5.out
     have BW5 : Hid (Below w.heap.size w w5) := BO.out.trans (B5.out.mono BO.out.size)
     have HOL : Hid ((digits (n : Int) ++ strs ps 3).length <= 300910) := by
      show _ <= _
      rw [List.length_append]
      have := ze9 (n : Int)
      have := HSL.out 3 (by omega)
      omega
     obtain ⟨za, zc_, rfl, _⟩ := Z5.out.rd
     obtain ⟨zl, hzl⟩ : ∃ zl, Z.length = zl := ⟨_, rfl⟩
     have HZE : Hid (Z.length = zl) := hzl
     have hzl2 : zl <= 800000 := by rw [<- hzl]; exact HZL.out
     rw [hzl] at Z5 ⊢
     obtain ⟨X, hX⟩ : ∃ X : List Int, digits (n : Int) ++ strs ps 3 = X := ⟨_, rfl⟩
     have HX : Hid (digits (n : Int) ++ strs ps 3 = X) := hX
     rw [hX] at O5 HOL
     clear ho5 hg5 hzl HZL HRA BR hX O3
     go_wp2_with fail
     refine (zam9 ov X zl w5 O5.out.rd (by have := HOL.out; omega) (by omega)).mono ?_
     rintro e w6 ⟨v6, rfl, ho6, hb6, hf6⟩
     have Z6 : Hid (Owns .u8 5 w6 (.slice za zl zc_) Z) := Z5.out.below hb6
     have O6 : Hid (Owns .u8 5 w6 v6 (X ++ digits (zl : Int))) := ho6
     have B6 : Hid (Below w.heap.size w w6) := BW5.out.trans (hb6.mono BW5.out.size)
     have N6 : Hid (∀ k, v6.ownBlock = some k -> w.heap.size <= k) := fun k hk => by have := hf6 k hk; have := BW5.out.size; omega
     have HL6 : Hid ((X ++ digits (zl : Int)).length <= 301000) := by show _ <= _; rw [List.length_append]; have := ze9 (zl : Int); have := HOL.out; omega
     obtain ⟨X6, hX6⟩ : ∃ X6 : List Int, X ++ digits (zl : Int) = X6 := ⟨_, rfl⟩
     have HX6 : Hid (X ++ digits (zl : Int) = X6) := hX6
     rw [hX6] at O6 HL6
     clear ho6 hb6 hf6 hX6 Z5 O5
     go_wp2_with (at_builtin; refine zb9 w6 rfl (.tmp 118) (.tmp 119) 22 rfl 5 .u8 1 elem8 v6 X6 rfl O6.out (.slice za zl zc_) Z rfl Z6.out.rd (by rw [HZE.out]; have := HL6.out; omega) (by rw [HZE.out]; have := HL6.out; omega) ?_)
     intro v7 w7 ho7 hg7
     have h7 := hg7.onto B6.out N6.out
     have O7 : Hid (Owns .u8 5 w7 v7 (X6 ++ Z)) := ho7
     have B7 : Hid (Below w.heap.size w w7) := h7.1
     have N7 : Hid (∀ k, v7.ownBlock = some k -> w.heap.size <= k) := h7.2
     clear ho7 hg7 h7
     go_wp2_with fail
     go_ret
     exact ⟨v7, rfl, by have h := O7.out; rw [<- HX6.out, <- HX.out, <- HZE.out] at h; exact h, B7.out, N7.out⟩
end Go.Proofs.YtobenjkacpipeaaGreat
