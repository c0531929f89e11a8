import Derived.Test.YtobenjkacpipeaaGreatPPkPart
set_option maxRecDepth 100000
set_option linter.unusedVariables false
set_option linter.unusedSimpArgs false
set_option maxHeartbeats 8000000
namespace Go.Proofs.YtobenjkacpipeaaGreat
open Go.RowKit Pl
theorem CodOk.str {cs : List Int} (h : CodOk cs) : (shR (cts17 cs) 6).1 = 0 /\ mayS (shR (cts17 cs) 6).2 6 = true /\ (shR (cts17 cs) 6).2.length <= 17 /\ (putR (shR (cts17 cs) 6).2 6).1 = 0 /\ (encR (shR (cts17 cs) 6).2 6 cs).1 = 0 /\ allS (shR (cts17 cs) 6).2 cs = true ∧
  (putR (shR (cts17 cs) 6).2 6).2.length <= 200 /\ (encR (shR (cts17 cs) 6).2 6 cs).2.length <= 100000 := by
 obtain ⟨s, he, hm, hl, hpos⟩ := ztn9 h.may
 rw [he]
 simp only
 rw [zex9] at hl
 have hall : allS s cs = true := by
  unfold allS
  rw [decide_eq_true_eq]
  intro i hi
  obtain ⟨c, hc⟩ := Int.eq_ofNat_of_zero_le (h.each i).1
  have hb := (h.each i).2
  have hp := zil9 cs i hi c hc
  have h2 := (hpos c).2 (by rw [zek9 cs c (by omega)]; exact hp)
  rw [hc, Int.toNat_natCast]
  refine ⟨by omega, ?_, by omega⟩
  by_cases e : c < s.length
  ·exact e
  ·rw [List.getD_eq_getElem?_getD, List.getElem?_eq_none (by omega)] at h2; simp at h2
 have hle := h.le
 have e1 : putR s 6 = (0, [6] ++ pk ((s.length : Int) :: s) (s.length + 1)) := by unfold putR; rw [if_neg (by rw [hm]; decide)]
 have e2 : encR s 6 cs = (0, pack (eRow (nn s) s.length (2 ^ (6 : Int).toNat) (6 : Int).toNat cs ++ [1])) := by unfold encR; rw [if_neg (by rw [hm]; decide), if_neg (by rw [hall]; simp; omega)]
 refine ⟨trivial, hm, hl, by rw [e1], by rw [e2], hall, ?_, ?_⟩
 ·rw [e1]
  have := pk_len ((s.length : Int) :: s) (s.length + 1)
  simp
  omega
 ·rw [e2]
  simp only [zc9, List.length_append, List.length_cons, List.length_nil]
  unfold eRow
  have := en_len (nn s) s.length (2 ^ (6 : Int).toNat) cs
  rw [List.length_append, za9]
  have e6 : (6 : Int).toNat = 6 := rfl
  rw [e6] at this ⊢
  omega
theorem zwb9 {cs : List Int} (h : CodOk cs) : (strR cs).length <= 100300 := by
 obtain ⟨_, _, _, _, _, _, h1, h2⟩ := h.str
 have := ze9 ((encR (shR (cts17 cs) 6).2 6 cs).2.length : Int)
 unfold strR
 rw [List.length_append, List.length_append]
 omega
theorem zqi9 {i : Nat} (hi : i < 3) {ps : List Sq} (h : ∀ x ∈ ps, SqOk x) (h1 : 1 <= ps.length) (h2 : ps.length <= 16384) : CodOk (cods i ps) := by
 refine ⟨by simp [cods]; omega, by simp [cods]; omega, fun k => ?_⟩
 rw [List.getD_eq_getElem?_getD]
 simp only [cods, List.getElem?_map]
 cases e : ps[k]? with
 | none => simp
 | some x =>
  have := cOf_le (h x (List.mem_of_getElem? e) i hi)
  simp
  omega
theorem zup9 (i : Nat) (ps : List Sq) (k : Nat) (hk : k < ps.length) : (cods i ps).getD k 0 = (cOf (vOf i (ps.getD k sq0)) : Int) := by
 simp [cods, List.getD_eq_getElem?_getD, hk]
theorem zmm9 (k : Nat) (hk : k < 3) : ∀ args w, (callFunc (pFn k) args).run Tryz.prog w = .ok (.enter (pFn k) args) w := by
 match k, hk with
 | 0, _ => exact enters_of Tryz.func86 (by kernel_rfl) rfl
 | 1, _ => exact enters_of Tryz.func87 (by kernel_rfl) rfl
 | 2, _ => exact enters_of Tryz.func88 (by kernel_rfl) rfl
theorem zmo9 (i : Nat) (hi : i < 3) (f : Nat) (hfn : pFn i = f) (g : Nat) (ov : Value) (E : Int) (xs : List Int) (sv : Value) (ps : List Sq) (w : World) (h : Sk w g ov E xs) (hr : RdS w sv ps) (hok : ∀ x ∈ ps, SqOk x) (h1 : 1 <= ps.length) (h2 : ps.length <= 16384) (hl : xs.length <= 1000000) :
  Calls Tryz.prog 54 #[.pointer (some ⟨g, 0, none⟩), sv, .func (.func f) #[] #[]] w fun e w' => e = .returned (.tuple #[]) /\ ∃ ov', SkTo w g ov w' ov' E (xs ++ strR (cods i ps)) := by
 have HFN : Hid (pFn i = f) := hfn
 clear hfn
 have H : Hid (Sk w g ov E xs) := h
 have HR : Hid (RdS w sv ps) := hr
 have HOK : Hid (∀ x ∈ ps, SqOk x) := hok
 obtain ⟨a, cap, rfl, hlc, hcm, hcc⟩ := hr
 obtain ⟨ab, ao, rfl, hcell⟩ : ∃ b o, a = some ⟨b, o, none⟩ /\ ∀ i, i < ps.length -> w.cell? ⟨b, o + i * 3, none⟩ = some (.int .i64 (ps.getD i sq0).1) /\ w.cell? ⟨b, o + i * 3 + 1, none⟩ = some (.int .i64 (ps.getD i sq0).2.1) /\ w.cell? ⟨b, o + i * 3 + 2, none⟩ = some (.int .i64 (ps.getD i sq0).2.2) := by
  rcases hcc with h | h
  ·rw [h] at h1; simp at h1
  ·exact h
 have HCELL : Hid (∀ i, i < ps.length -> w.cell? ⟨ab, ao + i * 3, none⟩ = some (.int .i64 (ps.getD i sq0).1) /\ w.cell? ⟨ab, ao + i * 3 + 1, none⟩ = some (.int .i64 (ps.getD i sq0).2.1) /\ w.cell? ⟨ab, ao + i * 3 + 2, none⟩ = some (.int .i64 (ps.getD i sq0).2.2)) := hcell
 have HCO : Hid (CodOk (cods i ps)) := zqi9 hi hok h1 h2
 have HCL : Hid ((cods i ps).length = ps.length) := by show _ = _; simp [cods]
 have HCA : Hid (∀ k, k < ps.length -> (cods i ps).getD k 0 = (cOf (vOf i (ps.getD k sq0)) : Int)) := fun k hk => zup9 i ps k hk
 obtain ⟨cs, hcs⟩ : ∃ cs, Hid (cods i ps = cs) := ⟨_, rfl⟩
 rw [hcs.out] at HCO HCL HCA ⊢
 clear hcc hcell h hok hcs
 obtain ⟨hvN, hiN⟩ := zero_of_info zaal9
 obtain ⟨ZN, hZN⟩ : ∃ Z, Hid ((ics 17 (fun _ => 0)).toArray = Z) := ⟨_, rfl⟩
 rw [hZN.out] at hvN
 have hsl := fun (g : Nat) (w : World) => zyc9 g w
 obtain ⟨j0, hj, hy0, hy1, hy2⟩ := elem64.info
 obtain ⟨n, hn⟩ : ∃ n, ps.length = n := ⟨_, rfl⟩
 have HN : Hid (ps.length = n) := hn
 rw [hn] at h1 h2 hlc HCL HCA HCELL ⊢
 clear hn
 go_enter Tryz.func54, Tryz.ntmps54
 go_wp2_with (at_make; refine wpList_make_full _ rfl (.tmp 13) (.tmp 13) 56 rfl 0 3 j0 _ 1 Tryz.underlying56 hj hy0 hy1 .i64 .i64 _ _ n rfl rfl (by first | rfl | omega) (by first | rfl | omega) (by rw [hy2]; omega) (by unfold maxLen; omega) (Nat.zero_le _) ?_)
 intro w1 ho1 hg1
 obtain ⟨C, hC⟩ : ∃ C, Hid (w.heap.size = C) := ⟨_, rfl⟩
 obtain ⟨Y, hY⟩ : ∃ Y, Hid (w.heap.size + 1 = Y) := ⟨_, rfl⟩
 rw [hY.out] at ho1 ⊢
 have P1 : Hid (Pm w w1 C Y n cs 0) := by
  have b1 : Below (w.alloc (.cells ZN 113)).heap.size (w.alloc (.cells ZN 113)) w1 := (Below.refl _ _).grown hg1 (Nat.le_refl _) (fun k e => by cases e)
  have b0 : Below w.heap.size w (w.alloc (.cells ZN 113)) := (Below.refl _ _).alloc (Nat.le_refl _) _
  have hiv : Iv (w.alloc (.cells ZN 113)) C 113 17 (ctN cs 0) := by
   unfold Iv
   rw [<- hC.out, <- hZN.out]
   exact heap_alloc_new w _
  have hsz : Y = w.heap.size + 1 := hY.out.symm
  have e0 : (madeCells #[Value.int .i64 0] n).toList = (List.replicate n (0 : Int)).map (Value.int .i64) := by have := zqx9 n; rw [Nat.mul_one] at this; exact this
  refine ⟨hiv.below b1, ?_, b0.trans (b1.mono b0.size), by have := hC.out; omega, by omega, by have := hC.out; omega⟩
  unfold Owns
  rw [List.take_zero, List.nil_append, Nat.sub_zero, List.length_replicate, <- e0]
  exact ho1
 rw [hC.out]
 clear ho1 hg1 hC hY hZN hvN hiN hj hy0 hy1 hy2
 go_wp2_with fail
 go_loopw [17] (fun i wr => ∃ k : Nat, k <= n /\ i = .int .i64 k /\ Hid (Pm w wr C Y n cs k)) (fun i _ => n - (intOf i).toNat)
 case atStart => exact ⟨0, Nat.zero_le _, rfl, P1⟩
 case round =>
  clear P1
  obtain ⟨k, hk, rfl, P⟩ := hrel
  by_cases hlt : k < n
  ·obtain ⟨x, hx⟩ : ∃ x, Hid (ps.getD k sq0 = x) := ⟨_, rfl⟩
   have hxok : SqOk x := by
    rw [<- hx.out, List.getD_eq_getElem?_getD, List.getElem?_eq_getElem (by have := HN.out; omega)]
    exact HOK.out _ (List.getElem_mem _)
   have hcell := HCELL.out k hlt
   rw [hx.out] at hcell
   obtain ⟨q0, q1, q2⟩ := hcell
   have lift : ∀ off v, w.cell? ⟨ab, off, none⟩ = some v -> wr.cell? ⟨ab, off, none⟩ = some v := fun off v hv => by
    rw [P.out.bel.cell (p := ⟨ab, off, none⟩) (World.block_lt_of_cell? w ⟨ab, off, none⟩ hv)]; exact hv
   have k0 := lift _ _ q0
   have k1 := lift _ _ q1
   have k2 := lift _ _ q2
   have hca := HCA.out k hlt
   rw [hx.out] at hca
   obtain ⟨v, hv⟩ : ∃ v, Hid (vOf i x = v) := ⟨_, rfl⟩
   have hvb := hxok i hi
   rw [hv.out] at hca hvb
   have hc16 := cOf_le hvb
   obtain ⟨c, hc⟩ : ∃ c, Hid (cOf v = c) := ⟨_, rfl⟩
   rw [hc.out] at hca hc16
   have ent : ∀ args w, (callFunc f args).run Tryz.prog w = .ok (.enter f args) w := by rw [<- HFN.out]; exact zmm9 i hi
   have HPT : Hid (∀ W : World, Calls Tryz.prog f #[.agg #[.int .i64 x.1, .int .i64 x.2.1, .int .i64 x.2.2]] W fun e w' => e = .returned (.int .i64 v) /\ Below W.heap.size W w') := fun W => by
    have := znl9 i hi x hxok W
    rw [hv.out, HFN.out] at this
    exact this
   have HCF : Hid (∀ W : World, Calls Tryz.prog 89 #[.int .i64 v] W fun e w' => e = .returned (.int .i64 (c : Int)) /\ w' = W) := fun W => by
    have := zia9 v W hvb
    rw [hc.out] at this
    exact this
   have HCC : Hid (cs.getD k 0 = (c : Int)) := hca
   obtain ⟨x1, x2, x3⟩ := x
   simp only at k0 k1 k2
   have HPT2 : Hid (∀ W : World, Calls Tryz.prog f #[.agg #[.int .i64 x1, .int .i64 x2, .int .i64 x3]] W fun e w' => e = .returned (.int .i64 v) /\ Below W.heap.size W w') := HPT
   clear q0 q1 q2 lift hca hxok HPT
   have hki0 : (0 : Int) <= (k : Int) := by omega
   have hki1 : (k : Int) < (n : Int) := by omega
   go_wp2_with fail
   obtain ⟨W2, hW2⟩ : ∃ W2, Hid (wr.alloc (.cells #[.int .i64 x1, .int .i64 x2, .int .i64 x3] 55) = W2) := ⟨_, rfl⟩
   try rw [hW2.out]
   have b2 : Below wr.heap.size wr W2 := by rw [<- hW2.out]; exact (Below.refl _ _).alloc (Nat.le_refl _) _
   have P2 : Hid (Pm w W2 C Y n cs k) := P.out.blw b2
   clear b2 P k0 k1 k2 ent
   refine (HPT2.out _).mono ?_
   rintro e w3 ⟨rfl, hb3⟩
   have P3 : Hid (Pm w w3 C Y n cs k) := P2.out.blw hb3
   clear hb3 P2 hW2
   go_wp2_with fail
   refine (HCF.out w3).mono ?_
   rintro e w4 ⟨rfl, rfl⟩
   obtain ⟨g5, cap5, e5, _, _, _, hcl, hfz⟩ := P3.out.sy.shape (by rw [List.length_append, List.length_replicate]; omega)
   simp only [Value.slice.injEq, Option.some.injEq, Addr.mk.injEq, and_true] at e5
   obtain ⟨rfl, hjk⟩ := e5
   clear hjk
   have hsl5 : (cs.take k ++ List.replicate (n - k) 0).length = n := by rw [List.length_append, List.length_take, List.length_replicate]; have := HCL.out; omega
   have y0 : ∃ yv, w4.cell? ⟨Y, k, none⟩ = some (.int .i64 yv) := ⟨_, hcl k (by omega)⟩
   obtain ⟨yv, y0⟩ := y0
   have yf := hfz k
   have n0 := P3.out.iv.at_ c (by omega)
   have nf := P3.out.iv.fz c
   have hbd := ctN_bd cs k c
   have P4 := P3.out.next hlt HCL.out c HCC.out hc16
   obtain ⟨z, hz⟩ : ∃ z, Hid (ctN cs k c = z) := ⟨_, rfl⟩
   rw [hz.out] at n0 hbd P4
   have HP4 : Hid (Pm w ((w4.setCell ⟨Y, k, none⟩ (.int .i64 (c : Int))).setCell ⟨C, c, none⟩ (.int .i64 (z + 1))) C Y n cs (k + 1)) := P4
   have hne : C ≠ Y := P3.out.ne
   have hne2 : Y ≠ C := fun e => hne e.symm
   have hci0 : (0 : Int) <= (c : Int) := by omega
   have hci1 : (c : Int) < 17 := by omega
   clear P3 P4 hcl hfz hsl5
   go_wp2_with fail
   go_roundw
   case rel => exact ⟨k + 1, by omega, by go_num, HP4⟩
   case measure => simp [intOf]; omega
  ·obtain rfl : k = n := by omega
   have HIR : Hid (Rd .i64 wr (.slice (some ⟨C, 0, none⟩) 17 17) (cts17 cs)) := by
    have := P.out.iv.rdList (by omega)
    rw [<- HCL.out] at this
    exact this
   have O1 : Hid (Owns .i64 3 wr (.slice (some ⟨Y, 0, none⟩) k k) cs) := by
    have := P.out.sy
    rw [Nat.sub_self, List.replicate_zero, List.append_nil, List.take_of_length_le (by rw [HCL.out]; exact Nat.le_refl _)] at this
    exact this
   have S1 : Hid (Sk wr g ov E xs) := H.out.below P.out.bel
   have B1 : Hid (Below w.heap.size w wr) := P.out.bel
   have NY : Hid (Y ≠ g /\ ∀ j, ov.ownBlock = some j -> j ≠ Y) := ⟨by have := P.out.yn; have := H.out.lt; omega, fun j hj => by have := P.out.yn; have := H.out.own.lt j hj; omega⟩
   obtain ⟨e1, e2, e3, e4, e5, e6, e7, e8⟩ := HCO.out.str
   obtain ⟨sR, hsR⟩ : ∃ sR, Hid (shR (cts17 cs) 6 = sR) := ⟨_, rfl⟩
   have HST : Hid (strR cs = (putR sR.2 6).2 ++ digits (encR sR.2 6 cs).2.length ++ (encR sR.2 6 cs).2) := by show _ = _; unfold strR; rw [hsR.out]
   rw [hsR.out] at e1 e2 e3 e4 e5 e7 e8
   obtain ⟨E1, s⟩ := sR
   simp only at e1 e2 e3 e4 e5 e7 e8 HST
   subst e1
   clear P H HCELL HR e6
   go_wp2_with fail
   refine (zrh9 _ (cts17 cs) 6 wr HIR.out).mono ?_
   rintro e w2 ⟨d2, rfl, hb2, hf2, ho2⟩
   rw [hsR.out] at ho2 ⊢
   simp only at ho2 ⊢
   have O2 : Hid (Owns .i64 3 w2 d2 s) := ho2
   have Y2 : Hid (Owns .i64 3 w2 (.slice (some ⟨Y, 0, none⟩) k k) cs) := O1.out.below hb2
   have S2 : Hid (Sk w2 g ov E xs) := S1.out.below hb2
   have B2 : Hid (Below w.heap.size w w2) := B1.out.trans (hb2.mono B1.out.size)
   have ND : Hid (∀ j, d2.ownBlock = some j -> j ≠ g /\ ov.ownBlock ≠ some j) := fun j hj => ⟨by have := hf2 j hj; have := S1.out.lt; omega, fun e => by have := hf2 j hj; have := S1.out.own.lt j e; omega⟩
   clear hb2 hf2 ho2 O1 S1 B1 HIR
   go_wp2_with fail
   refine (zdr9 g ov E 0 xs w2 S2.out).mono ?_
   rintro e w3 ⟨rfl, hs3, ht3⟩
   rw [zm9] at hs3
   have S3 : Hid (SkTo w g ov w3 ov E xs) := SkTo.pre B2.out (SkTo.kept hs3 ht3)
   have O3 : Hid (Owns .i64 3 w3 d2 s) := O2.out.tch ht3 (fun j hj e => (ND.out j hj).1 e)
   have Y3 : Hid (Owns .i64 3 w3 (.slice (some ⟨Y, 0, none⟩) k k) cs) := Y2.out.tch ht3 (fun j hj e => by simp only [Value.ownBlock, Option.some.injEq] at hj; exact NY.out.1 (by omega))
   clear hs3 ht3 S2 O2 Y2 B2
   go_wp2_with fail
   refine (zjr9 d2 s 6 w3 O3.out.rd).mono ?_
   rintro e w4 ⟨p4, rfl, hb4, hf4, ho4⟩
   rw [e4]
   obtain ⟨pb, hpb⟩ : ∃ pb, Hid ((putR s 6).2 = pb) := ⟨_, rfl⟩
   rw [hpb.out] at ho4 HST e7
   have S4 : Hid (SkTo w g ov w4 ov E xs) := S3.out.post hb4
   have O4 : Hid (Owns .i64 3 w4 d2 s) := O3.out.below hb4
   have Y4 : Hid (Owns .i64 3 w4 (.slice (some ⟨Y, 0, none⟩) k k) cs) := Y3.out.below hb4
   have Q4 : Hid (Owns .u8 5 w4 p4 pb) := ho4
   have hpg : p4.ownBlock ≠ some g := fun e => by have := hf4 g e; have := S3.out.sk.lt; omega
   clear hb4 hf4 ho4 S3 O3 Y3
   go_wp2_with fail
   refine (zaf9 g ov E 0 xs p4 pb w4 S4.out.sk Q4.out.rd hpg (by omega)).mono ?_
   rintro e w5 ⟨rfl, ov5, h5⟩
   rw [zm9] at h5
   have S5 : Hid (SkTo w g ov w5 ov5 E (xs ++ pb)) := S4.out.trans h5
   have O5 : Hid (Owns .i64 3 w5 d2 s) := O4.out.tch h5.tch (fun j hj e => by rcases e with e | e; (· exact (ND.out j hj).1 e); (· exact (ND.out j hj).2 e))
   have Y5 : Hid (Owns .i64 3 w5 (.slice (some ⟨Y, 0, none⟩) k k) cs) := Y4.out.tch h5.tch (fun j hj e => by simp only [Value.ownBlock, Option.some.injEq] at hj; rcases e with e | e; (· exact NY.out.1 (by omega)); (· exact NY.out.2 j e hj.symm))
   clear h5 S4 O4 Y4 Q4
   go_wp2_with fail
   refine (znf9 d2 _ s cs 6 w5 O5.out.rd Y5.out.rd).mono ?_
   rintro e w6 ⟨v6, rfl, hb6, hf6, ho6⟩
   rw [e5]
   obtain ⟨eb, heb⟩ : ∃ eb, Hid ((encR s 6 cs).2 = eb) := ⟨_, rfl⟩
   rw [heb.out] at ho6 HST e8
   have S6 : Hid (SkTo w g ov w6 ov5 E (xs ++ pb)) := S5.out.post hb6
   have V6 : Hid (Owns .u8 5 w6 v6 eb) := ho6
   have hvg : v6.ownBlock ≠ some g := fun e => by have := hf6 g e; have := S5.out.sk.lt; omega
   have HVO : Hid (∀ j, v6.ownBlock = some j -> ov5.ownBlock ≠ some j) := fun j hj e => by have := hf6 j hj; have := S5.out.sk.own.lt j e; omega
   clear hb6 hf6 ho6 S5 O5 Y5
   go_wp2_with fail
   refine (zdj9 g ov5 E 0 (xs ++ pb) v6 eb w6 S6.out.sk V6.out.rd hvg HVO.out V6.out.lt (by rw [List.length_append]; omega) (by omega)).mono ?_
   rintro e w7 ⟨rfl, ov7, h7⟩
   rw [zm9] at h7
   have S7 : Hid (SkTo w g ov w7 ov7 E (xs ++ strR cs)) := by
    have := S6.out.trans h7
    rw [HST.out]
    simpa [List.append_assoc, Hid] using this
   clear h7 S6 V6
   go_wp2_with fail
   go_end0
   exact ⟨rfl, ov7, S7.out⟩
end Go.Proofs.YtobenjkacpipeaaGreat
