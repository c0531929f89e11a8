import Derived.Test.YtjhccpijpffahaaGreatPDBs
import Derived.Laws.CopyOwn
import Derived.StillTailTactics
import Derived.Test.YtjhccpijpffahaaGreatPRow0
import Derived.Test.YtjhccpijpffahaaGreatPBBlk
import Derived.Deep.RegionLaw
set_option maxRecDepth 100000
set_option linter.unusedVariables false
set_option linter.unusedSimpArgs false
set_option maxHeartbeats 8000000
namespace Go.Proofs.YtjhccpijpffahaaGreat
open Go.RowKit Pl
theorem zgi9 {xs ys : List Int} {a j : Nat} (y : Int) (hj : ys.length = j) (h : a + j < xs.length) : (splice xs a ys).set (a + j) y = splice xs a (ys ++ [y]):=by
 unfold splice
 have hl : (xs.take a).length = a:=by rw [List.length_take]; omega
 rw [List.set_append_right _ _ (by omega),hl,show a + j - a = j by omega,List.set_append_right _ _ (by omega),hj,Nat.sub_self]
 rw [List.drop_eq_getElem_cons (show a + j < xs.length from h),List.set_cons_zero,List.length_append,hj,List.append_assoc]
 rfl
theorem zis9 (xs : List Int) (a : Nat) : splice xs a [] = xs:=by
 unfold splice
 simp
theorem zir9 {xs ys : List Int} {a : Nat} (h : a + ys.length <= xs.length) : (splice xs a ys).length = xs.length:=by
 unfold splice
 simp only [List.length_append,List.length_take,List.length_drop]
 omega
theorem ztr9 (N j : Nat) : ((N : Int) / 2 ^ (8 * j)) % 256 = (N : Int) / 256 ^ j % 256:=by
 rw [Int.pow_mul]
 rfl
theorem zev9 (g at_ k N : Nat) (xs : List Int) (w : World) (h : Fu w g xs) (hN : N < 9223372036854775807) (hk : k <= 4) (ha : at_ + k <= 256) :
  Calls Tryz.prog 117 #[.pointer (some ⟨g,0,none⟩),.int .i64 (at_ : Int),.int .i64 (k : Int),.int .i64 (N : Int)] w fun e w' => e = .returned (.tuple #[]) /\ Fu w' g (splice xs at_ (leN k (N : Int))) /\ Tch (fun j => j = g) w w':=by
 have HF : Hid (Fu w g xs):=h
 have hgl : Hid (g < w.heap.size):=h.lt
 have HL : Hid (xs.length = 256):=h.2.1
 clear h
 go_enter Tryz.func117,Tryz.ntmps117
 go_wp2_with fail
 go_loopw [10] (fun i wr => ∃ j : Nat,j <= k /\ i = .int .i64 j /\ Hid (Fu wr g (splice xs at_ (leN j (N : Int)))) /\ Hid (Tch (fun j => j = g) w wr)) (fun i _ => k - (intOf i).toNat)
 case atStart => exact ⟨0,zn7 _,rfl,by rw [show leN 0 (N : Int) = [] from rfl,zis9]; exact HF,Tch.refl _ _⟩
 case round =>
  clear HF
  obtain ⟨j,hj,rfl,F,T⟩:=hrel
  by_cases hlt : j < k
  ·obtain ⟨y,hy⟩ : ∃ y : Nat,N / 2 ^ (8 * j) % 256 = y:=⟨_,rfl⟩
   have hy2 : y < 256:=by rw [<- hy]; exact Nat.mod_lt _ (by decide)
   obtain ⟨m,hm⟩:=exN (8 * j)
   have hy1 : (N : Int) / 2 ^ m % 256 = (y : Int):=by
    rw [<- hy,<- hm,Int.natCast_emod,Int.natCast_ediv,Int.natCast_pow]
    rfl
   have hst : (splice xs at_ (leN j (N : Int))).set (at_ + j) (y : Int) = splice xs at_ (leN (j + 1) (N : Int)):=by
    rw [zgi9 _ (zor9 j _) (by rw [HL.out]; omega),zql9,<- ztr9,hm,hy1]
   have hm1 : 8 * (j : Int) = (m : Int):=by omega
   have hm2 : (m : Int) <= 24:=by omega
   obtain ⟨p,hp⟩:=exN (at_ + j)
   have hp1 : (at_ : Int) + (j : Int) = (p : Int):=by omega
   have hp2 : (p : Int) < 256:=by omega
   rw [hp] at hst
   have cp:=F.out.cell (i:=p) (by omega)
   have fp:=F.out.fz p
   have F1 : Hid (Fu (wr.setCell ⟨g,p,none⟩ (.int .u8 (y : Int))) g (splice xs at_ (leN (j + 1) (N : Int)))):=by
    have:=F.out.set p (y:=(y : Int)) (by omega) (by omega)
    rw [hst] at this
    exact this
   have T1 : Hid (Tch (fun j => j = g) w (wr.setCell ⟨g,p,none⟩ (.int .u8 (y : Int)))):=Tch.setCell T.out (p:=⟨g,p,none⟩) (fun _ => rfl) _
   generalize (splice xs at_ (leN j (N : Int))).getD p 0 = z at cp
   have hjk : (j : Int) < (k : Int):=by omega
   clear F T hy hm hp hst
   have w1 : IntKind.i64.wrap (p : Int) = (p : Int):=by rw [IntKind.wrap_i64]; omega
   have w2 : IntKind.i64.wrap (m : Int) = (m : Int):=by rw [IntKind.wrap_i64]; omega
   go_wp2_with fail
   go_still_tail 11,(by kernel_rfl)
   go_wp2_with fail
   go_roundw
   case rel => exact ⟨j + 1,by omega,by go_num,F1,T1.out.drew⟩
   case measure => simp [intOf]; omega
  ·have hnn : ¬ (j : Int) < (k : Int):=by omega
   have hjk : j = k:=by omega
   rw [hjk] at F
   clear hjk
   go_wp2_with fail
   go_end0
   exact ⟨rfl,F.out,T.out⟩
theorem i64_or (a b : Nat) (ha : a < 4294967296) (hb : b < 4294967296) : Go.bits .or .i64 (a : Int) (b : Int) = ((a ||| b : Nat) : Int):=by
 have hx : a ||| b < 4294967296:=Nat.or_lt_two_pow (n:=32) ha hb
 show IntKind.i64.wrap ((BitVec.ofInt 64 (a : Int) ||| BitVec.ofInt 64 (b : Int)).toNat : Int) = _
 rw [BitVec.toNat_or,ofInt_u64 a (by omega),ofInt_u64 b (by omega),IntKind.wrap_i64]
 omega
theorem zpd9 {xs : List Int} {a j : Nat} (h : a + j < xs.length) : sl xs a (j + 1) = sl xs a j ++ [xs.getD (a + j) 0]:=by
 unfold sl
 rw [List.take_succ_eq_append_getElem (by rw [List.length_drop]; omega),List.getElem_drop,zn3,List.getElem?_eq_getElem h]
 rfl
theorem sl_len {xs : List Int} {a k : Nat} (h : a + k <= xs.length) : (sl xs a k).length = k:=by unfold sl; rw [List.length_take,List.length_drop]; omega
theorem zbi9 (g at_ k : Nat) (xs : List Int) (w : World) (h : Fu w g xs) (hk : k <= 4) (ha : at_ + k <= 256) :
  Calls Tryz.prog 156 #[.pointer (some ⟨g,0,none⟩),.int .i64 (at_ : Int),.int .i64 (k : Int)] w fun e w' => e = .returned (.int .i64 (vN (sl xs at_ k))) /\ Below w.heap.size w w':=by
 have HF : Hid (Fu w g xs):=h
 have HL : Hid (xs.length = 256):=h.2.1
 have HB : Hid (By xs):=h.2.2
 clear h
 obtain ⟨R,hR⟩:=exH (vN (sl xs at_ k))
 rw [hR.out]
 go_enter Tryz.func156,Tryz.ntmps156
 go_wp2_with fail
 go_loopw [7,10] (fun vv i wr => ∃ (j X : Nat),j <= k /\ i = .int .i64 j /\ vv = .int .i64 (X : Int) /\ X < 4294967296 /\ Hid (vN (sl xs at_ j) = (X : Int) /\ X < 256 ^ j) /\ Hid (Below w.heap.size w wr)) (fun _ i _ => k - (intOf i).toNat)
 case atStart => exact ⟨0,0,zn7 _,rfl,rfl,by decide,⟨by simp [sl,vN],by decide⟩,Below.refl _ _⟩
 case round =>
  obtain ⟨j,X,hj,rfl,rfl,hX,HX,B⟩:=hrel
  by_cases hlt : j < k
  ·obtain ⟨b,hb⟩ : ∃ b : Nat,Hid (xs.getD (at_ + j) 0 = (b : Int) /\ b < 256):=by
    have:=HB.out (at_ + j)
    exact ⟨(xs.getD (at_ + j) 0).toNat,by omega,by omega⟩
   have hb1:=hb.out.2
   obtain ⟨m,hm⟩:=exN (8 * j)
   have hm1 : 8 * (j : Int) = (m : Int):=by omega
   have hm2 : (m : Int) <= 24:=by omega
   obtain ⟨p,hp⟩:=exN (at_ + j)
   have hp1 : (at_ : Int) + (j : Int) = (p : Int):=by omega
   have hp2 : (p : Int) < 256:=by omega
   have F : Fu wr g xs:=HF.out.below B.out
   have cp : wr.cell? ⟨g,p,none⟩ = some (.int .u8 (b : Int)):=by rw [F.cell (by omega),<- hp,hb.out.1]
   have e256 : 256 ^ j = 2 ^ m:=by rw [<- hm,Nat.pow_mul]
   have hXm : X < 2 ^ m:=by rw [<- e256]; exact HX.out.2
   have hor : X ||| b * 2 ^ m = X + b * 2 ^ m:=by
    rw [Nat.or_comm,Nat.mul_comm,<- Nat.two_pow_add_eq_or_of_lt hXm,Nat.add_comm]
   obtain ⟨Y,hY⟩:=exN (b * 2 ^ m)
   have hY2 : X + Y < 256 ^ (j + 1):=by
    rw [<- hY,Nat.pow_succ,e256]
    have : b * 2 ^ m <= 255 * 2 ^ m:=Nat.mul_le_mul_right _ (by omega)
    omega
   have hpw : 256 ^ (j + 1) <= 256 ^ 4:=Nat.pow_le_pow_right (by decide) (by omega)
   have hY3 : X + Y < 4294967296:=by
    have : (256 : Nat) ^ 4 = 4294967296:=rfl
    omega
   have hY4 : (b : Int) * 2 ^ m = (Y : Int):=by rw [<- hY,Int.natCast_mul,Int.natCast_pow]; rfl
   have ho:=i64_or X Y hX (by omega)
   rw [<- hY,hor,hY] at ho
   have HN : Hid (vN (sl xs at_ (j + 1)) = ((X + Y : Nat) : Int) /\ X + Y < 256 ^ (j + 1)):=by
    refine ⟨?_,hY2⟩
    have h256 : (256 : Int) ^ j = ((2 ^ m : Nat) : Int):=by rw [<- e256,Int.natCast_pow]; rfl
    rw [zpd9 (by rw [HL.out]; omega),zpj9,HX.out.1,sl_len (by rw [HL.out]; omega),hb.out.1,h256,<- hY,Int.natCast_add,Int.natCast_mul,Int.mul_comm]
   obtain ⟨Z,hZ⟩:=exN (X + Y)
   rw [hZ] at ho HN hY3
   have hjk : (j : Int) < (k : Int):=by omega
   have hb2 : (b : Int) < 256:=by omega
   have hY5 : (Y : Int) < 4294967296:=by omega
   have w1 : IntKind.i64.wrap (p : Int) = (p : Int):=by rw [IntKind.wrap_i64]; omega
   have w2 : IntKind.i64.wrap (m : Int) = (m : Int):=by rw [IntKind.wrap_i64]; omega
   have w3 : IntKind.i64.wrap (Y : Int) = (Y : Int):=by rw [IntKind.wrap_i64]; omega
   clear HX hm hp F e256 hXm hor hY hY2 hpw hZ
   go_wp2_with fail
   go_roundw
   case rel => exact ⟨j + 1,Z,by omega,by go_num,rfl,hY3,HN,B⟩
   case measure => simp [intOf]; omega
  ·have hnn : ¬ (j : Int) < (k : Int):=by omega
   have HE : Hid ((X : Int) = R):=by
    show _ = _
    rw [<- hR.out,<- HX.out.1,show j = k by omega]
   clear HX
   go_wp2_with fail
   go_ret
   exact ⟨by rw [<- HE.out]; rfl,B.out⟩
theorem zsu9 : (Tryz.prog.info? 5).map (·.size) = some 1:=by kernel_rfl
theorem zib9 (L cs : List Int) (off : Nat) : splice (bcs L) off (bcs cs) = bcs (splice L off cs):=by
 unfold splice bcs
 simp only [List.map_append,List.map_take,List.map_drop,List.length_map]
theorem zgq9 (w : World) {ops : Array Oper} {rest : List Oper} {o : Oper} {a : Act} {Q : Exit -> Act -> World -> Prop} (hgd : o.guard = none) (d s : Operand)
  (ho : o.op = .call { callee:=.builtin .copy,args:=#[d,s],argTypes:=#[61,61] }) (g off dLen dCap : Nat) (hd : a.eval d = .slice (some ⟨g,off,none⟩) dLen dCap)
  (cur : List Int) (t : TypeId) (hg : w.heap[g]? = some (.cells (bcs cur).toArray t (0,0))) (v : Value) (xs : List Int) (hs : a.eval s = v) (hr : Rd .u8 w v xs) (hfit : off + min xs.length dLen <= cur.length)
  (B : Nat) (w0 : World) (hB : Below B w0 w) (hBg : B <= g)
  (h : ∀ w',Hid (w'.heap[g]? = some (.cells (bcs (splice cur off (xs.take dLen))).toArray t (0,0))) -> Hid (Below B w0 w') -> wpList Tryz.prog ops Q rest (a.put o.dst (goInt (xs.take dLen).length)) w') : wpList Tryz.prog ops Q (o :: rest) a w:=by
 obtain ⟨sp,cap,rfl,h1,h2,h3,h4⟩:=hr
 refine wpList_copy_splice hgd d s 61 61 ho 5 Tryz.underlying61 zsu9 (some ⟨g,off,none⟩) sp dLen dCap xs.length cap hd hs g off (bcs cur) t hg (bcs (xs.take dLen)) ?_ ?_ ?_ (zjf9 _) B w0 hB hBg ?_
 ·rw [zf9,List.length_take]; exact Nat.min_comm _ _
 ·intro hp
  refine ⟨rfl,?_⟩
  rw [zf9,List.length_take] at hp
  rcases h4 with rfl | ⟨b,o,rfl,hc⟩
  ·simp at hp
  ·refine ⟨_,rfl,fun j u hu => ?_⟩
   have hjl : j < (bcs (xs.take dLen)).length:=(List.getElem?_eq_some_iff.1 hu).1
   rw [zf9,List.length_take] at hjl
   rw [Addr.add_lit,hc j (by omega)]
   rw [bcs,List.getElem?_map,List.getElem?_take,if_pos (by omega),List.getElem?_eq_getElem (by omega)] at hu
   simp only [Option.map_some,Option.some.injEq] at hu
   rw [<- hu,zn3,List.getElem?_eq_getElem (by omega)]
   rfl
 ·rw [zf9,zf9,List.length_take]; omega
 ·intro w' hh hb'
  have hh':=hh.out
  rw [zib9] at hh'
  rw [zf9]
  exact h w' hh' hb'
theorem zdv9 {xs A B : List Int} {a b : Nat} (hb : b = a + A.length) (h : b + B.length <= xs.length) : splice (splice xs a A) b B = splice xs a (A ++ B):=by
 subst hb
 unfold splice
 have hl : (xs.take a).length = a:=by rw [List.length_take]; omega
 have e1 : (xs.take a ++ (A ++ xs.drop (a + A.length))).take (a + A.length) = xs.take a ++ A:=by
  rw [<- List.append_assoc,List.take_append_of_le_length (by rw [List.length_append,hl]; exact zn6 _),zn5 (by rw [List.length_append,hl]; exact zn6 _)]
 have e2 : (xs.take a ++ (A ++ xs.drop (a + A.length))).drop (a + A.length + B.length) = xs.drop (a + (A ++ B).length):=by
  rw [<- List.append_assoc,List.drop_append,List.drop_of_length_le (by rw [List.length_append,hl]; omega),List.nil_append,List.length_append,hl,List.drop_drop,List.length_append]
  congr 1
  omega
 rw [e1,e2]
 simp only [List.append_assoc]
theorem zlp9 {xs : List Int} (h : xs.length = 256) : splice zz 0 (xs.take 256) = xs:=by
 unfold splice
 rw [List.take_zero,List.nil_append,zn5 (by omega),List.drop_of_length_le (by rw [zz_len]; omega),List.append_nil]
theorem ztb9 (c : Nat) : leN 4 (c : Int) = le4 c:=by
 unfold leN le4
 simp [List.range_succ]
theorem zry9 (xs : List Int) : crc xs < 4294967296:=by unfold crc; omega
theorem zln9 {xs : List Int} (h : xs.length = 256) : splice xs 252 (leN 4 (crc (xs.take 252) : Int)) = smd xs:=by
 unfold splice smd
 rw [zor9,ztb9,List.drop_of_length_le (by omega),List.append_nil]
theorem zhj9 (v : Value) (xs : List Int) (w : World) (hr : Rd .u8 w v xs) (hb : By xs) (hl : xs.length = 256) :
  Calls Tryz.prog 138 #[v] w fun e w' => e = .returned (.agg (bcs xs).toArray) /\ Below w.heap.size w w':=by
 obtain ⟨a,cap,rfl,h1,h2,_⟩:=id hr
 obtain ⟨hv,hi⟩:=zero_of_info zek9
 have HSL:=zll9
 have HI : Hid ((Tryz.prog.info? 156).map (·.size) = some 256):=hi
 have HR : Hid (Rd .u8 w (.slice a 256 cap) xs):=by rw [<- hl]; exact hr
 have HY : Hid (By xs):=hb
 have HL : Hid (xs.length = 256):=hl
 rw [hl] at h1 ⊢
 obtain ⟨W1,hW1⟩:=exN (w.alloc (.cells (bcs zz).toArray 156))
 obtain ⟨W2,hW2⟩:=exN (W1.alloc (.cells (bcs zz).toArray 156))
 have s1 : W1.heap.size = w.heap.size + 1:=by rw [<- hW1]; simp
 have s2 : W2.heap.size = w.heap.size + 1 + 1:=by rw [<- hW2]; simp [s1]
 have b1 : Below w.heap.size w W1:=by rw [<- hW1]; exact (Below.refl _ _).alloc (zn6 _) _
 have b2 : Below W1.heap.size W1 W2:=by rw [<- hW2]; exact (Below.refl _ _).alloc (zn6 _) _
 have F1 : Fu W1 w.heap.size zz:=by rw [<- hW1]; exact zhb9 w zz_len zz_by
 have FR : Hid (Fu W2 w.heap.size zz):=F1.below b2
 have F2 : Hid (Fu W2 (w.heap.size + 1) zz):=by rw [<- hW2,<- s1]; exact zhb9 W1 zz_len zz_by
 have M2 : Hid (W2.heap[w.heap.size + 1]? = some (.cells (bcs zz).toArray 156 (0,0))):=F2.out.1
 have B2 : Hid (Below w.heap.size w W2):=b1.trans (b2.mono (by omega))
 have R2 : Hid (Rd .u8 W2 (.slice a 256 cap) xs):=HR.out.below B2.out
 have HFT : Hid (0 + min xs.length 256 <= zz.length):=by show _ <= _; rw [zz_len]; omega
 have BX : Hid (∀ W,Below (w.heap.size + 1) W W):=fun W => Below.refl _ _
 obtain ⟨Z,hZ⟩:=exH ((bcs zz).toArray)
 rw [hZ.out] at hv hW1 hW2
 clear F1 b1 b2 hr hb hl h2 hi s2
 go_enter Tryz.func138,Tryz.ntmps138
 go_wp2_with (with_reducible (show wpList _ _ _ (Oper.mk _ (Op.call _) _ _ _ _ :: _) _ _); refine zgq9 _ rfl (.tmp 4) (.tmp 5) rfl (w.heap.size + 1) 0 256 256 ?h3 zz _ M2.out _ xs ?h5 R2.out HFT.out (w.heap.size + 1) W2 (BX.out W2) (zn6 _) ?_; (case h3 => kernel_rfl); (case h5 => kernel_rfl))
 intro w3 M3 N3
 rw [zlp9 HL.out] at M3
 obtain ⟨g,hg⟩:=exH w.heap.size
 rw [hg.out] at FR M3 N3 B2 ⊢
 have F3 : Hid (Fu w3 (g + 1) xs):=⟨M3.out,HL.out,HY.out⟩
 have R3 : Hid (Fu w3 g zz):=⟨by rw [N3.out.block g (by omega)]; exact FR.out.1,FR.out.2⟩
 have B3 : Hid (Below g w w3):=B2.out.trans (N3.out.mono (by omega))
 have HRG : Hid (w3.rangeAt (g + 1) 0 (bcs xs)):=F3.out.range
 have HPL : Hid ((bcs xs).length = 256):=by show _ = _; rw [zf9]; exact HL.out
 have HT : Hid (w3.there g 0 256):=R3.out.there
 have HSZ : Hid ((bcs xs).toArray.size = 256):=zee9 HL.out
 have HON : Hid ((bcs xs).toArray.all (·.oneCell') = true):=zay9 _
 have HP : Hid (Fu (w3.setCells g 0 (bcs xs)) g xs):=R3.out.put HL.out HY.out
 have HBB : Hid (Below g w (w3.setCells g 0 (bcs xs))):=B3.out.trans ((zb9 g _ 0 w3).below (by have:=R3.out.lt; omega) (fun k e => by omega))
 generalize goInt (List.take 256 xs).length = gi
 clear M3 N3 FR F2 M2 B2 R2 hW1 hW2 s1 HFT F3 R3 B3 BX
 go_wp2_with (first | (with_reducible (show wpList _ _ _ (Oper.mk _ (Op.load _ _) _ _ _ _ :: _) _ _); refine wpList_load_mid rfl 156 (.tmp 3) rfl (g + 1) 0 rfl (bcs xs) _ HRG.out Tryz.underlying156 rfl (by rw [HPL.out]; exact HI.out) ?_) | (with_reducible (show wpList _ _ _ (Oper.mk _ (Op.store _ _ _) _ _ _ _ :: _) _ _); refine wpList_store_mid rfl 156 (.tmp 2) (.tmp 7) rfl g 0 (bcs xs).toArray rfl rfl (by rw [HSZ.out]; exact HT.out) (by rw [HSZ.out]; exact HI.out) HON.out ?_))
 refine bodyPost_ret (v:=.agg (bcs xs).toArray) ?_ rfl ⟨rfl,?_⟩
 ·exact zdt9 (p:=2) (ty:=156) rfl _ _ _ g _ rfl (by simpa using HP.out.load)
 ·rw [hg.out]; simpa using HBB.out
theorem ziu9 (xs : List Int) (w : World) (hl : xs.length = 256) (hb : By xs) :
  Calls Tryz.prog 118 #[.agg (bcs xs).toArray] w fun e w' => e = .returned (.agg (bcs (smd xs)).toArray) /\ Below w.heap.size w w':=by
 obtain ⟨hv,hi⟩:=zero_of_info zek9
 have HSH:=zgh9
 have HI : Hid ((Tryz.prog.info? 156).map (·.size) = some 256):=hi
 have HL : Hid (xs.length = 256):=hl
 have HB : Hid (By xs):=hb
 obtain ⟨W1,hW1⟩:=exN (w.alloc (.cells (bcs xs).toArray 156))
 obtain ⟨W2,hW2⟩:=exN (W1.alloc (.cells (bcs zz).toArray 156))
 have F1 : Fu W1 w.heap.size xs:=by rw [<- hW1]; exact zhb9 w hl hb
 have s1 : W1.heap.size = w.heap.size + 1:=by rw [<- hW1]; simp
 have s2 : W2.heap.size = w.heap.size + 2:=by rw [<- hW2]; simp [s1]
 have FA : Hid (Fu W2 w.heap.size xs):=by rw [<- hW2]; exact F1.below ((Below.refl _ _).alloc (zn6 _) _)
 have FB : Hid (Fu W2 (w.heap.size + 1) zz):=by rw [<- hW2,<- s1]; exact zhb9 W1 zz_len zz_by
 have B2 : Hid (Below w.heap.size w W2):=by
  rw [<- hW2,<- hW1]
  exact ((Below.refl _ _).alloc (zn6 _) _).alloc (by simp) _
 obtain ⟨Z,hZ⟩:=exH ((bcs zz).toArray)
 obtain ⟨X,hX⟩:=exH ((bcs xs).toArray)
 rw [hZ.out] at hv hW2
 rw [hX.out] at hW1 ⊢
 have HR : Hid (Rd .u8 W2 (.slice (some ⟨w.heap.size,0,none⟩) 252 256) (xs.take 252)):=FA.out.rdTo 252 (by decide)
 have HC : Hid (crc (xs.take 252) < 4294967296):=zry9 _
 obtain ⟨g,hg⟩:=exH w.heap.size
 have HW3 : Hid ((w.alloc (.cells X 156)).alloc (.cells Z 156) = W2):=by show _ = _; rw [hW1]; exact hW2
 clear hi hl hb F1 s1 s2 hW1 hW2
 go_enter Tryz.func118,Tryz.ntmps118
 go_wp2_with fail
 rw [HW3.out]
 rw [hg.out] at HR FA FB B2 ⊢
 refine (zrx9 _ _ _ HR.out (HB.out.take 252)).mono ?_
 rintro e w3 ⟨rfl,rfl⟩
 have HE:=hideP (zln9 HL.out)
 obtain ⟨s,hs⟩:=exN (crc (xs.take 252))
 rw [hs] at HC HE ⊢
 clear hs
 go_wp2_with fail
 refine (zev9 g 252 4 s xs _ FA.out (by have:=HC.out; omega) (by decide) (by decide)).mono ?_
 rintro e w4 ⟨rfl,f4,t4⟩
 rw [HE.out] at f4
 have F4 : Hid (Fu w4 g (smd xs)):=f4
 have R4 : Hid (Fu w4 (g + 1) zz):=FB.out.tch t4 (by omega)
 have B4 : Hid (Below g w w4):=B2.out.trans (t4.below (Nat.le_of_lt FA.out.lt) (fun k e => by rw [e]; exact zn6 _))
 have HSL : Hid ((smd xs).length = 256):=zfp9 HL.out
 have HSB : Hid (By (smd xs)):=smd_by HB.out
 have HRG : Hid (w4.rangeAt g 0 (bcs (smd xs))):=F4.out.range
 generalize hys : smd xs = ys at *
 have HYS : Hid (smd xs = ys):=hys
 clear hys
 have HPL : Hid ((bcs ys).length = 256):=by show _ = _; rw [zf9]; exact HSL.out
 have HT : Hid (w4.there (g + 1) 0 256):=R4.out.there
 have HSZ : Hid ((bcs ys).toArray.size = 256):=zee9 HSL.out
 have HON : Hid ((bcs ys).toArray.all (·.oneCell') = true):=zay9 _
 have HP : Hid (Fu (w4.setCells (g + 1) 0 (bcs ys)) (g + 1) ys):=R4.out.put HSL.out HSB.out
 have HBB : Hid (Below g w (w4.setCells (g + 1) 0 (bcs ys))):=B4.out.trans ((zb9 (g + 1) _ 0 w4).below (by have:=R4.out.lt; omega) (fun k e => by omega))
 clear f4 t4 HR FA FB B2 HW3 R4 B4 HE
 go_wp2_with (first | (with_reducible (show wpList _ _ _ (Oper.mk _ (Op.load _ _) _ _ _ _ :: _) _ _); refine wpList_load_mid rfl 156 (.tmp 1) rfl g 0 rfl (bcs ys) _ HRG.out Tryz.underlying156 rfl (by rw [HPL.out]; exact HI.out) ?_) | (with_reducible (show wpList _ _ _ (Oper.mk _ (Op.store _ _ _) _ _ _ _ :: _) _ _); refine wpList_store_mid rfl 156 (.tmp 2) (.tmp 6) rfl (g + 1) 0 (bcs ys).toArray rfl rfl (by rw [HSZ.out]; exact HT.out) (by rw [HSZ.out]; exact HI.out) HON.out ?_))
 refine bodyPost_ret (v:=.agg (bcs ys).toArray) ?_ rfl ⟨by rw [HYS.out],?_⟩
 ·exact zdt9 (p:=2) (ty:=156) rfl _ _ _ (g + 1) _ rfl (by simpa using HP.out.load)
 ·rw [hg.out]; simpa using HBB.out
theorem zbb9 (xs : List Int) (w : World) (hl : xs.length = 256) (hb : By xs) :
  Calls Tryz.prog 118 #[.agg (bcs xs).toArray] w fun e w' => e = .returned (.agg (bcs (smd xs)).toArray) /\ Below w.heap.size w w':=ziu9 xs w hl hb
theorem pre_eq (n k : Int) (ys : List Int) (h : ys.length <= 240) :
  splice ((((zz.set 0 k).set 1 (ys.length : Int)).set 2 (n % 256)).set 3 (n / 256)) 8 (ys.take 244) = pre n k ys ++ [0,0,0,0]:=by
 obtain ⟨H,hH⟩:=exN ([k,(ys.length : Int),n % 256,n / 256,0,0,0,0])
 have hl : H.length = 8:=by rw [<- hH]; rfl
 have e : (((zz.set 0 k).set 1 (ys.length : Int)).set 2 (n % 256)).set 3 (n / 256) = H ++ List.replicate 248 0:=by rw [<- hH]; rfl
 rw [e,zn5 (by omega)]
 unfold splice pre
 rw [hH,List.take_append_of_le_length (by omega),zn5 (by omega),List.drop_append,List.drop_of_length_le (l:=H) (by omega),List.nil_append,hl,List.drop_replicate]
 rw [show (248 : Nat) - (8 + ys.length - 8) = (244 - ys.length) + 4 by omega,<- List.replicate_append_replicate]
 simp only [List.append_assoc]
 rfl
theorem leN_1 (N : Nat) (h : N < 256) : leN 1 (N : Int) = [(N : Int)]:=by
 unfold leN
 simp [List.range_succ]
 omega
theorem leN_2 (N : Nat) (h : N < 65536) : leN 2 (N : Int) = [(N : Int) % 256,(N : Int) / 256]:=by
 unfold leN
 simp [List.range_succ]
 omega
theorem zso9 (n k l : Nat) (hn : n < 65536) (hk : k < 256) (hl : l < 256) : splice (splice (splice zz 0 (leN 1 (k : Int))) 1 (leN 1 (l : Int))) 2 (leN 2 (n : Int)) = (((zz.set 0 (k : Int)).set 1 (l : Int)).set 2 ((n : Int) % 256)).set 3 ((n : Int) / 256):=by
 rw [leN_1 k hk,leN_1 l hl,leN_2 n hn,zdv9 (by rfl) (by rw [zir9 (by rw [zz_len]; simp),zz_len]; simp),zdv9 (by rfl) (by rw [zz_len]; simp)]
 rfl
theorem zbq9 (n k : Int) (v : Value) (ys : List Int) (w : World) (hr : Rd .u8 w v ys) (hb : By ys) (hm : mayK n k ys.length = true) :
  Calls Tryz.prog 90 #[.int .i64 n,blk k v] w fun e w' => e = .returned (.agg (bcs (sec n k ys)).toArray) /\ Below w.heap.size w w':=by
 obtain ⟨a,cap,rfl,h1,h2,_⟩:=id hr
 obtain ⟨m1,m2,m3,m4,m5⟩:=zv9.1 hm
 obtain ⟨hv,hi⟩:=zero_of_info zbn9
 have HSL:=zdd9
 have HR : Hid (Rd .u8 w (.slice a ys.length cap) ys):=hr
 have HY : Hid (By ys):=hb
 have HI : Hid ((Tryz.prog.info? 156).map (·.size) = some 256):=hi
 obtain ⟨W1,hW1⟩:=exN (w.alloc (.cells #[.int .i64 k,.slice a ys.length cap] 63))
 obtain ⟨W2,hW2⟩:=exN (W1.alloc (.cells (bcs zz).toArray 156))
 obtain ⟨W3,hW3⟩:=exN (W2.alloc (.cells (bcs zz).toArray 156))
 have s1 : W1.heap.size = w.heap.size + 1:=by rw [<- hW1]; simp
 have s2 : W2.heap.size = w.heap.size + 1 + 1:=by rw [<- hW2]; simp [s1]
 have s3 : Hid (W3.heap.size = w.heap.size + 3):=by show _ = _; rw [<- hW3]; simp [s2]
 have b1 : Below w.heap.size w W1:=by rw [<- hW1]; exact (Below.refl _ _).alloc (zn6 _) _
 have b2 : Below W1.heap.size W1 W2:=by rw [<- hW2]; exact (Below.refl _ _).alloc (zn6 _) _
 have b3 : Below W2.heap.size W2 W3:=by rw [<- hW3]; exact (Below.refl _ _).alloc (zn6 _) _
 have Q1 : Bkv W1 w.heap.size k (.slice a ys.length cap):=by rw [<- hW1]; exact zr9 w _ _
 have Q3 : Hid (Bkv W3 w.heap.size k (.slice a ys.length cap)):=(Q1.below b2).below b3
 have F2 : Fv W2 (w.heap.size + 1) zz:=by rw [<- hW2,<- s1]; exact fv_new W1 zz_len zz_by
 have FR : Hid (Fv W3 (w.heap.size + 1) zz):=F2.below b3
 have FS : Hid (Fv W3 (w.heap.size + 1 + 1) zz):=by rw [<- hW3,<- s2]; exact fv_new W2 zz_len zz_by
 have BB : Hid (Below w.heap.size w W3):=b1.trans ((b2.trans (b3.mono (by omega))).mono (by omega))
 have q0:=Q3.out.c0
 have q1:=Q3.out.c1
 have hc : cap <= 9223372036854775807:=by unfold maxLen at h2; omega
 obtain ⟨Z,hZ⟩:=exH ((bcs zz).toArray)
 rw [hZ.out] at hv hW2 hW3
 obtain ⟨l,hl⟩:=exH ys.length
 rw [hl.out] at HR h1 m5 hm hW1 q1 Q3 ⊢
 obtain ⟨nn,rfl⟩ : ∃ nn : Nat,n = nn:=⟨n.toNat,by omega⟩
 obtain ⟨kk,rfl⟩ : ∃ kk : Nat,k = kk:=⟨k.toNat,by omega⟩
 have hkk : kk < 256:=by omega
 have hnn : nn < 65536:=by omega
 have HM : Hid (((0 : Int) <= (nn : Int) /\ (nn : Int) <= 65535) /\ ((1 : Int) <= (kk : Int) /\ (kk : Int) <= 4)):=⟨⟨m1,m2⟩,m3,m4⟩
 clear Q1 F2 b1 b2 b3 hi h2 hr hb m1 m2 m3 m4 hm
 unfold blk
 go_enter Tryz.func90,Tryz.ntmps90
 go_wp2_with fail
 obtain ⟨g,hg⟩:=exH w.heap.size
 rw [hg.out] at Q3 FR FS BB s3 ⊢
 clear hW1 hW2 hW3 q0 q1 hv
 refine (zev9 (g + 1 + 1) 0 1 kk zz W3 FS.out (by omega) (by decide) (by decide)).mono ?_
 rintro e w4 ⟨rfl,f4,t4⟩
 have F4 : Hid (Fu w4 (g + 1 + 1) (splice zz 0 (leN 1 (kk : Int)))):=f4
 have Q4 : Hid (Bkv w4 g (kk : Int) (.slice a l cap)):=Q3.out.tch t4 (by omega)
 have R4 : Hid (Fv w4 (g + 1) zz):=FR.out.tch t4 (by omega)
 have B4 : Hid (Below g w w4):=BB.out.trans (t4.below (by rw [s3.out]; omega) (fun k e => by rw [e]; omega))
 have z4 : Hid (g + 3 <= w4.heap.size):=by show _ <= _; have:=t4.size; rw [s3.out] at this; exact this
 have p1:=Q4.out.c1
 clear f4 t4 Q3 FR FS BB
 go_wp2_with fail
 refine (zev9 (g + 1 + 1) 1 1 l _ w4 F4.out (by omega) (by decide) (by decide)).mono ?_
 rintro e w5 ⟨rfl,f5,t5⟩
 have F5 : Hid (Fu w5 (g + 1 + 1) (splice (splice zz 0 (leN 1 (kk : Int))) 1 (leN 1 (l : Int)))):=f5
 have Q5 : Hid (Bkv w5 g (kk : Int) (.slice a l cap)):=Q4.out.tch t5 (by omega)
 have R5 : Hid (Fv w5 (g + 1) zz):=R4.out.tch t5 (by omega)
 have B5 : Hid (Below g w w5):=B4.out.trans (t5.below (by have:=z4.out; omega) (fun k e => by rw [e]; omega))
 have z5 : Hid (g + 3 <= w5.heap.size):=by show _ <= _; have:=t5.size; have:=z4.out; omega
 clear f5 t5 Q4 R4 B4 F4 p1 z4
 go_wp2_with fail
 refine (zev9 (g + 1 + 1) 2 2 nn _ w5 F5.out (by omega) (by decide) (by decide)).mono ?_
 rintro e W4 ⟨rfl,f6,t6⟩
 rw [zso9 nn kk l hnn hkk (by omega)] at f6
 have F4 : Hid (Fv W4 (g + 1 + 1) ((((zz.set 0 (kk : Int)).set 1 (l : Int)).set 2 ((nn : Int) % 256)).set 3 ((nn : Int) / 256))):=f6
 have Q4 : Hid (Bkv W4 g (kk : Int) (.slice a l cap)):=Q5.out.tch t6 (by omega)
 have R4 : Hid (Fv W4 (g + 1) zz):=R5.out.tch t6 (by omega)
 have B4 : Hid (Below g w W4):=B5.out.trans (t6.below (by have:=z5.out; omega) (fun k e => by rw [e]; omega))
 have HR4 : Hid (Rd .u8 W4 (.slice a l cap) ys):=HR.out.below (hg.out ▸ B4.out : Below w.heap.size w W4)
 have c1:=Q4.out.c1
 clear f6 t6 Q5 R5 B5 F5 z5
 generalize hL4 : (((zz.set 0 (kk : Int)).set 1 (l : Int)).set 2 ((nn : Int) % 256)).set 3 ((nn : Int) / 256) = L4 at F4
 have HL4 : Hid ((((zz.set 0 (kk : Int)).set 1 (l : Int)).set 2 ((nn : Int) % 256)).set 3 ((nn : Int) / 256) = L4):=hL4
 clear hL4 s1 s2 s3
 go_wp2_with fail
 refine wp_region_still_tail 3 (by kernel_rfl) (by kernel_rfl) ?_
 simp only [List.take_succ_cons,List.take_zero,List.drop_succ_cons,List.drop_zero]
 repeat still_step
 refine wpStill_nil ?_
 change wpList _ _ _ _ _ W4.drew
 have FT : 8 + min ys.length 244 <= L4.length:=by rw [F4.out.2.1,hl.out]; omega
 refine zbr9 _ rfl (.tmp 15) (.tmp 17) rfl (g + 1 + 1) 8 244 248 (by kernel_rfl) L4 156 F4.out.1 _ ys (by kernel_rfl) (HR4.out.below ((Below.refl _ _).drew)) FT (g + 1 + 1) W4 ((Below.refl _ _).drew) (zn6 _) ?_
 intro w5 M5 N5
 rw [<- HL4.out,<- hl.out,pre_eq (nn : Int) (kk : Int) ys (by rw [hl.out]; omega)] at M5
 have hpl : (pre (nn : Int) (kk : Int) ys).length = 252:=zhm9 (nn : Int) (kk : Int) (by rw [hl.out]; omega)
 have F5 : Hid (Fv w5 (g + 1 + 1) (pre (nn : Int) (kk : Int) ys ++ [0,0,0,0])):=⟨M5.out,by rw [List.length_append,hpl]; rfl,(pre_by HM.out.1 HM.out.2 HY.out (by rw [hl.out]; omega)).appendB (zaq9 (by simp))⟩
 have R5 : Hid (Fv w5 (g + 1) zz):=by
  refine ⟨?_,R4.out.2⟩
  rw [N5.out.block (g + 1) (by omega)]
  exact R4.out.1
 have B5 : Hid (Below g w w5):=B4.out.trans (N5.out.mono (by omega))
 have HS : Hid (smd (pre (nn : Int) (kk : Int) ys ++ [0,0,0,0]) = sec (nn : Int) (kk : Int) ys):=zts9 (nn : Int) (kk : Int) (by rw [hl.out]; omega)
 have HSL : Hid ((sec (nn : Int) (kk : Int) ys).length = 256):=zht9 (nn : Int) (kk : Int) (by rw [hl.out]; omega)
 have HSB : Hid (By (sec (nn : Int) (kk : Int) ys)):=sec_by HM.out.1 HM.out.2 HY.out (by rw [hl.out]; omega)
 have HRG : Hid (w5.rangeAt (g + 1 + 1) 0 (bcs (pre (nn : Int) (kk : Int) ys ++ [0,0,0,0]))):=F5.out.range
 have HPL : Hid ((bcs (pre (nn : Int) (kk : Int) ys ++ [0,0,0,0])).length = 256):=by show _ = _; rw [zf9]; exact F5.out.2.1
 generalize pre (nn : Int) (kk : Int) ys ++ [0,0,0,0] = P at *
 generalize goInt (List.take 244 ys).length = gi
 clear M5 N5 B4 R4 HR4 F4 Q4 c1 FT HL4 hpl
 go_wp2_with (with_reducible (show wpList _ _ _ (Oper.mk _ (Op.load _ _) _ _ _ _ :: _) _ _); refine wpList_load_mid rfl 156 (.tmp 5) rfl (g + 1 + 1) 0 rfl (bcs P) _ HRG.out Tryz.underlying156 rfl (by rw [HPL.out]; exact HI.out) ?_)
 refine (zbb9 P w5 F5.out.2.1 F5.out.2.2).mono ?_
 rintro e w6 ⟨rfl,hb6⟩
 rw [HS.out]
 have R6 : Hid (Fv w6 (g + 1) zz):=R5.out.below hb6
 have B6 : Hid (Below g w w6):=B5.out.trans (hb6.mono (by have:=F5.out.lt; omega))
 have HT : Hid (w6.there (g + 1) 0 256):=R6.out.there
 have HSZ : Hid ((bcs (sec (nn : Int) (kk : Int) ys)).toArray.size = 256):=zbm9 HSL.out
 have HON : Hid ((bcs (sec (nn : Int) (kk : Int) ys)).toArray.all (·.oneCell') = true):=zay9 _
 have HP : Hid (Fv (w6.setCells (g + 1) 0 (bcs (sec (nn : Int) (kk : Int) ys))) (g + 1) (sec (nn : Int) (kk : Int) ys)):=R6.out.put HSL.out HSB.out
 have HBB : Hid (Below g w (w6.setCells (g + 1) 0 (bcs (sec (nn : Int) (kk : Int) ys)))):=B6.out.trans ((zb9 (g + 1) _ 0 w6).below (by have:=R6.out.lt; omega) (fun k e => by omega))
 clear hb6 F5 R5 B5 HRG HPL HS
 go_wp2_with (with_reducible (show wpList _ _ _ (Oper.mk _ (Op.store _ _ _) _ _ _ _ :: _) _ _); refine wpList_store_mid rfl 156 (.tmp 4) (.tmp 20) rfl (g + 1) 0 (bcs (sec (nn : Int) (kk : Int) ys)).toArray rfl rfl (by rw [HSZ.out]; exact HT.out) (by rw [HSZ.out]; exact HI.out) HON.out ?_)
 refine bodyPost_ret (v:=.agg (bcs (sec (nn : Int) (kk : Int) ys)).toArray) ?_ rfl ⟨rfl,?_⟩
 ·exact zbj9 (p:=4) (ty:=156) rfl _ _ _ (g + 1) _ rfl (by simpa using HP.out.load)
 ·rw [hg.out]; simpa using HBB.out
def PutR (n k : Int) (ys : List Int) (w : World) (e : Ending) (w' : World) : Prop:=
 ∃ v c,e = .returned (.tuple #[v,.int .i64 c]) /\ Below w.heap.size w w' /\ (∀ j,v.ownBlock = some j -> w.heap.size <= j) ∧
  ((mayK n k ys.length = true /\ c = 0 /\ Wb w' v (sec n k ys) /\ ∃ g,v = .slice (some ⟨g,0,none⟩) 256 256) ∨ (mayK n k ys.length = false /\ c = 1 /\ v = .slice none 0 0))
theorem zoy9 (n k : Int) (v : Value) (ys : List Int) (w : World) (hr : Rd .u8 w v ys) (hb : By ys) :
  Calls Tryz.prog 60 #[.int .i64 n,blk k v] w fun e w' => PutR n k ys w e w':=by
 obtain ⟨a,cap,rfl,h1,h2,_⟩:=id hr
 obtain ⟨hv,hi⟩:=zero_of_info zbn9
 have HSL:=zns9
 have HR : Hid (Rd .u8 w (.slice a ys.length cap) ys):=hr
 have HY : Hid (By ys):=hb
 have HI : Hid ((Tryz.prog.info? 156).map (·.size) = some 256):=hi
 obtain ⟨W1,hW1⟩:=exN (w.alloc (.cells #[.int .i64 k,.slice a ys.length cap] 63))
 have b1 : Hid (Below w.heap.size w W1):=by rw [<- hW1]; exact (Below.refl _ _).alloc (zn6 _) _
 have Q1 : Hid (Bkv W1 w.heap.size k (.slice a ys.length cap)):=by rw [<- hW1]; exact zr9 w _ _
 have q0:=Q1.out.c0
 have q1:=Q1.out.c1
 have hl9 : Hid (ys.length <= 9223372036854775807):=by show _ <= _; unfold maxLen at h2; omega
 obtain ⟨Z,hZ⟩:=exH ((bcs zz).toArray)
 have HZ : Hid (Z.size = 256):=by show _ = _; rw [<- hZ.out,List.size_toArray,zf9,zz_len]
 rw [hZ.out] at hv
 obtain ⟨l,hl⟩:=exH ys.length
 rw [hl.out] at HR hW1 q1 Q1 hl9 ⊢
 have M1:=zcn9 n k a l cap W1 hl9.out
 have HM1:=hideP M1
 cases hm : mayK n k l with
 | false =>
  have HPo : Hid (∀ w',Below w.heap.size w w' -> PutR n k ys w (.returned (.tuple #[.slice none 0 0,.int .i64 1])) w'):=fun w' h => ⟨_,_,rfl,h,(fun j e => by cases e),.inr ⟨by rw [hl.out]; exact hm,rfl,rfl⟩⟩
  rw [hm] at HM1
  clear hm M1 hr hb h2 hi
  unfold blk at HM1 ⊢
  go_enter Tryz.func60,Tryz.ntmps60
  go_wp2_with fail
  refine HM1.out.mono ?_
  rintro e w2 ⟨rfl,hb2⟩
  have B2 : Hid (Below w.heap.size w w2):=b1.out.trans (hb2.mono b1.out.size)
  clear hb2 hW1
  go_wp2_with fail
  go_ret2
  exact HPo.out _ B2.out
 | true =>
  have HMT : Hid (mayK n k ys.length = true):=by rw [hl.out]; exact hm
  rw [hm] at HM1
  clear hm M1 hr hb h2 hi
  unfold blk at HM1 ⊢
  go_enter Tryz.func60,Tryz.ntmps60
  go_wp2_with fail
  refine HM1.out.mono ?_
  rintro e w2 ⟨rfl,hb2⟩
  have B2 : Hid (Below w.heap.size w w2):=b1.out.trans (hb2.mono b1.out.size)
  have Q2 : Hid (Bkv w2 w.heap.size k (.slice a l cap)):=Q1.out.below hb2
  have R2 : Hid (Rd .u8 w2 (.slice a l cap) ys):=HR.out.below B2.out
  have p0:=Q2.out.c0
  have p1:=Q2.out.c1
  clear hb2 hW1 q0 q1 Q1 b1
  go_wp2_with fail
  refine (zbq9 n k _ ys w2 R2.out HY.out HMT.out).mono ?_
  rintro e w3 ⟨rfl,hb3⟩
  have B3 : Hid (Below w.heap.size w w3):=B2.out.trans (hb3.mono B2.out.size)
  obtain ⟨m1,m2,m3,m4,m5⟩:=zv9.1 HMT.out
  have HSE : Hid ((sec n k ys).length = 256):=zht9 n k (by omega)
  have HSZ : Hid ((bcs (sec n k ys)).toArray.size = 256):=zbm9 HSE.out
  have HON : Hid ((bcs (sec n k ys)).toArray.all (·.oneCell') = true):=zay9 _
  obtain ⟨W4,hW4⟩:=exN (w3.alloc (.cells (bcs (sec n k ys)).toArray 156))
  have F4 : Hid (Fv W4 w3.heap.size (sec n k ys)):=by rw [<- hW4]; exact fv_new w3 HSE.out (sec_by ⟨m1,m2⟩ ⟨m3,m4⟩ HY.out (by omega))
  have B4 : Hid (Below w.heap.size w W4):=by rw [<- hW4]; exact B3.out.alloc B3.out.size _
  have HS3 : Hid (w.heap.size <= w3.heap.size):=B3.out.size
  have HW4 : Hid (w3.alloc (.cells (bcs (sec n k ys)).toArray 156) = W4):=hW4
  clear hW4 hb3 m1 m2 m3 m4 m5 p0 p1
  go_wp2_with (with_reducible (show wpList _ _ _ (Oper.mk _ (Op.store _ _ _) _ _ _ _ :: _) _ _); refine zc9 _ rfl 156 (.tmp 6) (.tmp 13) rfl Z (bcs (sec n k ys)).toArray rfl rfl (by rw [HI.out,HSZ.out]) (by rw [HZ.out,HSZ.out]) HON.out ?_; rw [HW4.out])
  go_ret2
  refine ⟨_,_,rfl,B4.out,(fun j e => by cases e; exact HS3.out),.inl ⟨HMT.out,rfl,F4.out.wb,_,rfl⟩⟩
theorem zdu9 (m : Nat) (cs : List Int) (h : cs.length = m) : splice (zr m) 0 cs = cs:=by
 unfold splice
 rw [List.take_zero,List.nil_append,List.drop_of_length_le (by rw [zr_len]; omega),List.append_nil]
theorem vN_sl1 {xs : List Int} {i : Nat} (h : i < xs.length) : vN (sl xs i 1) = xs.getD i 0:=by
 rw [show (1 : Nat) = 0 + 1 from rfl,zpd9 (by omega)]
 simp [sl,vN]
theorem zef9 (xs : List Int) (w : World) (hl : xs.length = 256) (hb : By xs) :
  Calls Tryz.prog 139 #[.agg (bcs xs).toArray] w fun e w' => ∃ v,e = .returned (blk (xs.getD 0 0) v) /\ Wb w' v (bdy xs) /\ Below w.heap.size w w' /\ ∀ k,v.ownBlock = some k -> w.heap.size <= k:=by
 obtain ⟨j0,hj,hy0,hy1,hy2⟩:=info_parts zqi9
 have HSL:=zdd9
 have HL : Hid (xs.length = 256):=hl
 have HB : Hid (By xs):=hb
 obtain ⟨W1,hW1⟩:=exN (w.alloc (.cells (bcs xs).toArray 156))
 have F1 : Fv W1 w.heap.size xs:=by rw [<- hW1]; exact fv_new w hl hb
 have s1 : W1.heap.size = w.heap.size + 1:=by rw [<- hW1]; simp
 obtain ⟨X,hX⟩:=exH ((bcs xs).toArray)
 rw [hX.out] at hW1 ⊢
 have HW1 : Hid (w.alloc (.cells X 156) = W1):=hW1
 obtain ⟨L,hL⟩:=exN (bN xs 1)
 have hL2 : L < 256:=by rw [<- hL]; exact bN_lt hb 1
 obtain ⟨m,hm⟩:=exN (min L 244)
 have hm1 : min (L : Int) 244 = (m : Int):=by omega
 have hm2 : m <= 244:=by omega
 have hLL : Hid (bN xs 1 = L):=hL
 clear hL
 obtain ⟨W2,hW2⟩:=exN (W1.alloc (.cells #[.int .i64 0,.slice none 0 0] 63))
 have B12 : Below W1.heap.size W1 W2:=by rw [<- hW2]; exact (Below.refl _ _).alloc (zn6 _) _
 have s2 : W2.heap.size = w.heap.size + 2:=by rw [<- hW2]; simp [s1]
 have HB2 : Hid (Below w.heap.size w W2):=by rw [<- hW2,<- HW1.out]; exact ((Below.refl _ _).alloc (zn6 _) _).alloc (by simp) _
 have HF2 : Hid (Fv W2 w.heap.size xs):=F1.below B12
 have HQ2 : Hid (W2.heap[w.heap.size + 1]? = some (.cells #[.int .i64 0,.slice none 0 0] 63 (0,0))):=by show _ = _; rw [<- hW2,<- s1]; exact heap_alloc_new W1 _
 have HS2 : Hid (W2.heap.size = w.heap.size + 2):=s2
 have HK : Hid ((xs.drop 8).take m = bdy xs):=by show _ = _; unfold bdy; rw [hLL.out,hm]
 have HN1 : Hid (vN (sl xs 1 1) = (L : Int)):=by show _ = _; rw [vN_sl1 (by omega),bN_eq hb,hLL.out]
 have HN0 : Hid (vN (sl xs 0 1) = xs.getD 0 0):=vN_sl1 (by omega)
 have HM2 : Hid (m <= 244):=hm2
 clear F1 B12 s2 hl hb
 by_cases hc : (244 : Int) < (L : Int)
 ·obtain rfl : m = 244:=by omega
  clear hm hm1 hm2
  go_enter Tryz.func139,Tryz.ntmps139
  go_wp2_with fail
  refine (zbi9 w.heap.size 1 1 xs W2 HF2.out (by decide) (by decide)).mono ?_
  rintro e w2 ⟨rfl,hbn⟩
  rw [HN1.out]
  have HFn : Hid (Fv w2 w.heap.size xs):=(show Fv W2 w.heap.size xs from HF2.out).below hbn
  have HQn : Hid (w2.heap[w.heap.size + 1]? = some (.cells #[.int .i64 0,.slice none 0 0] 63 (0,0))):=by show _ = _; rw [hbn.block _ (by rw [HS2.out]; omega)]; exact HQ2.out
  have HBn : Hid (Below w.heap.size w w2):=HB2.out.trans (hbn.mono (by rw [HS2.out]; omega))
  obtain ⟨r,hr⟩:=exH w2.heap.size
  have HSr : Hid (w.heap.size + 2 <= r):=by rw [<- hr.out,<- HS2.out]; exact hbn.size
  clear hbn HF2 HQ2 HB2 hW1 hW2
  go_wp2_with (at_make; refine wpList_make_full _ rfl (.tmp 5) (.tmp 5) 61 rfl 0 5 j0 _ 1 Tryz.underlying61 hj hy0 hy1 .i64 .i64 _ _ 244 rfl rfl rfl rfl (by rw [hy2]; have:=HM2.out; omega) (by unfold maxLen; have:=HM2.out; omega) (zn7 _) ?_)
  intro w3 ho3 hg3
  have b3 : Below w2.heap.size w2 w3:=(Below.refl _ _).grown hg3 (zn6 _) (fun k e => by cases e)
  obtain ⟨g,hg⟩:=exH w.heap.size
  have M3 : Hid (w3.heap[r]? = some (.cells (bcs (zr 244)).toArray 5 (0,0))):=by
   refine zks9 ?_
   have h3:=ho3
   rw [toList_madeCells_one,hr.out] at h3
   exact h3
  rw [hg.out] at HFn HQn HSr HBn ⊢
  rw [hr.out]
  have HF3 : Hid (Fv w3 g xs):=HFn.out.below b3
  have HQ3 : Hid (w3.heap[g + 1]? = some (.cells #[.int .i64 0,.slice none 0 0] 63 (0,0))):=by show _ = _; rw [b3.block (g + 1) (by rw [hr.out]; have:=HSr.out; omega)]; exact HQn.out
  have HB3 : Hid (Below g w w3):=HBn.out.trans (b3.mono (by rw [hr.out]; have:=HSr.out; omega))
  have HR3 : Hid (Rd .u8 w3 (.slice (some ⟨g,8,none⟩) 244 248) ((xs.drop 8).take 244)):=HF3.out.rdMid
  have HBG : Hid (r <= r):=zn6 _
  have HBB : Hid (Below (r) w3 w3):=Below.refl _ _
  have HFT : Hid (0 + min ((xs.drop 8).take 244).length 244 <= (zr 244).length):=by show _ <= _; rw [zr_len]; omega
  clear ho3 hg3 b3 hj hy0 hy1 hy2 HFn HQn HBn
  go_wp2_with (with_reducible (show wpList _ _ _ (Oper.mk _ (Op.call _) _ _ _ _ :: _) _ _); refine zbr9 w3 rfl (.tmp 7) (.tmp 8) rfl (r) 0 244 244 ?h3 _ _ M3.out _ _ ?h5 HR3.out HFT.out (r) w3 HBB.out HBG.out ?_; (case h3 => kernel_rfl); (case h5 => kernel_rfl))
  intro w4 M4 B4
  have e4 : splice (zr 244) 0 (((xs.drop 8).take 244).take 244) = bdy xs:=by
   rw [List.take_take,Nat.min_eq_left HM2.out,HK.out,zdu9]
   rw [<- HK.out,List.length_take,List.length_drop,HL.out]; have:=HM2.out; omega
  rw [e4] at M4
  have HF4 : Hid (Fv w4 g xs):=by
   refine ⟨?_,HF3.out.2⟩
   rw [B4.out.block g (by have:=HSr.out; omega)]
   exact HF3.out.1
  have HQ4 : Hid (w4.heap[g + 1]? = some (.cells #[.int .i64 0,.slice none 0 0] 63 (0,0))):=by show _ = _; rw [B4.out.block (g + 1) (by have:=HSr.out; omega)]; exact HQ3.out
  have HB4 : Hid (Below g w w4):=HB3.out.trans (B4.out.mono (by have:=HSr.out; omega))
  have hbl : Hid ((bdy xs).length = 244):=by show _ = _; rw [<- HK.out,List.length_take,List.length_drop,HL.out]; have:=HM2.out; omega
  have HW4b : Hid (Wb w4 (.slice (some ⟨r,0,none⟩) 244 244) (bdy xs)):=⟨r,244,_,_,by rw [hbl.out],by rw [hbl.out]; exact zn6 _,by unfold maxLen; have:=HM2.out; omega,M4.out,by rw [List.toList_toArray,zn5 (by rw [zf9]; exact zn6 _)]⟩
  clear HF3 HQ3 HB3 HR3 HBB M3 e4
  go_wp2_with fail
  refine (zbi9 g 0 1 xs w4 HF4.out (by decide) (by decide)).mono ?_
  rintro e w5 ⟨rfl,hbn⟩
  rw [HN0.out]
  have HQ5 : Hid (w5.heap[g + 1]? = some (.cells #[.int .i64 0,.slice none 0 0] 63 (0,0))):=by show _ = _; rw [hbn.block (g + 1) (Array.getElem?_eq_some_iff.1 HQ4.out).1]; exact HQ4.out
  have HB5 : Hid (Below g w w5):=HB4.out.trans (hbn.mono (Nat.le_of_lt HF4.out.lt))
  have HW5 : Hid (Wb w5 (.slice (some ⟨r,0,none⟩) 244 244) (bdy xs)):=HW4b.out.below hbn
  clear hbn HF4 HQ4 HB4 HW4b M4
  have q0 : w5.cell? ⟨g + 1,0,none⟩ = some (.int .i64 0):=by rw [cell_of_row w5 (g + 1) 0 _ _ (0,0) HQ5.out]; rfl
  have q1 : w5.cell? ⟨g + 1,1,none⟩ = some (.slice none 0 0):=by rw [cell_of_row w5 (g + 1) 1 _ _ (0,0) HQ5.out]; rfl
  have f0 : w5.frozen? ⟨g + 1,0,none⟩ = false:=frozen_of_row w5 (g + 1) 0 _ _ HQ5.out
  have f1 : w5.frozen? ⟨g + 1,1,none⟩ = false:=frozen_of_row w5 (g + 1) 1 _ _ HQ5.out
  have hk0:=HB.out 0
  obtain ⟨K,hK⟩:=exH (xs.getD 0 0)
  rw [hK.out] at hk0 ⊢
  have HWB : Hid (Wb ((w5.setCell ⟨g + 1,0,none⟩ (.int .i64 K)).setCell ⟨g + 1,1,none⟩ (.slice (some ⟨r,0,none⟩) 244 244)) (.slice (some ⟨r,0,none⟩) 244 244) (bdy xs)):=by
   exact HW5.out.tch (S:=fun k => k = g + 1) (Tch.setCell (Tch.setCell (Tch.refl (fun k => k = g + 1) w5) (p:=⟨g + 1,0,none⟩) (fun _ => rfl) _) (p:=⟨g + 1,1,none⟩) (fun _ => rfl) _) (fun j hj e => by cases hj; have e2 : r = g + 1:=e; have:=HSr.out; omega)
  have HBE : Hid (Below g w ((w5.setCell ⟨g + 1,0,none⟩ (.int .i64 K)).setCell ⟨g + 1,1,none⟩ (.slice (some ⟨r,0,none⟩) 244 244))):=(HB5.out.setCell (by show g <= g + 1; omega) _).setCell (by show g <= g + 1; omega) _
  have HLD:=hideP (Bkv.put (show Bkv w5 (g + 1) 0 (.slice none 0 0) from HQ5.out) K (.slice (some ⟨r,0,none⟩) 244 244)).load
  clear HQ5 HB5 HW5
  go_wp2_with fail
  refine bodyPost_ret (v:=blk K (.slice (some ⟨r,0,none⟩) 244 244)) (zbj9 (p:=2) (ty:=63) rfl _ _ _ (g + 1) _ rfl HLD.out) rfl ?_
  refine ⟨_,by rw [hK.out],HWB.out,by rw [hg.out]; exact HBE.out,fun k hk => by cases hk; rw [hg.out]; show g <= r; have:=HSr.out; omega⟩
 ·have hLm : m = L:=by omega
  rw [hLm] at HK HM2
  clear hLm
  clear hm hm1 hm2
  go_enter Tryz.func139,Tryz.ntmps139
  go_wp2_with fail
  refine (zbi9 w.heap.size 1 1 xs W2 HF2.out (by decide) (by decide)).mono ?_
  rintro e w2 ⟨rfl,hbn⟩
  rw [HN1.out]
  have HFn : Hid (Fv w2 w.heap.size xs):=(show Fv W2 w.heap.size xs from HF2.out).below hbn
  have HQn : Hid (w2.heap[w.heap.size + 1]? = some (.cells #[.int .i64 0,.slice none 0 0] 63 (0,0))):=by show _ = _; rw [hbn.block _ (by rw [HS2.out]; omega)]; exact HQ2.out
  have HBn : Hid (Below w.heap.size w w2):=HB2.out.trans (hbn.mono (by rw [HS2.out]; omega))
  obtain ⟨r,hr⟩:=exH w2.heap.size
  have HSr : Hid (w.heap.size + 2 <= r):=by rw [<- hr.out,<- HS2.out]; exact hbn.size
  clear hbn HF2 HQ2 HB2 hW1 hW2
  go_wp2_with (at_make; refine wpList_make_full _ rfl (.tmp 5) (.tmp 5) 61 rfl 0 5 j0 _ 1 Tryz.underlying61 hj hy0 hy1 .i64 .i64 _ _ L rfl rfl rfl rfl (by rw [hy2]; have:=HM2.out; omega) (by unfold maxLen; have:=HM2.out; omega) (zn7 _) ?_)
  intro w3 ho3 hg3
  have b3 : Below w2.heap.size w2 w3:=(Below.refl _ _).grown hg3 (zn6 _) (fun k e => by cases e)
  obtain ⟨g,hg⟩:=exH w.heap.size
  have M3 : Hid (w3.heap[r]? = some (.cells (bcs (zr L)).toArray 5 (0,0))):=by
   refine zks9 ?_
   have h3:=ho3
   rw [toList_madeCells_one,hr.out] at h3
   exact h3
  rw [hg.out] at HFn HQn HSr HBn ⊢
  rw [hr.out]
  have HF3 : Hid (Fv w3 g xs):=HFn.out.below b3
  have HQ3 : Hid (w3.heap[g + 1]? = some (.cells #[.int .i64 0,.slice none 0 0] 63 (0,0))):=by show _ = _; rw [b3.block (g + 1) (by rw [hr.out]; have:=HSr.out; omega)]; exact HQn.out
  have HB3 : Hid (Below g w w3):=HBn.out.trans (b3.mono (by rw [hr.out]; have:=HSr.out; omega))
  have HR3 : Hid (Rd .u8 w3 (.slice (some ⟨g,8,none⟩) 244 248) ((xs.drop 8).take 244)):=HF3.out.rdMid
  have HBG : Hid (r <= r):=zn6 _
  have HBB : Hid (Below (r) w3 w3):=Below.refl _ _
  have HFT : Hid (0 + min ((xs.drop 8).take 244).length L <= (zr L).length):=by show _ <= _; rw [zr_len]; omega
  clear ho3 hg3 b3 hj hy0 hy1 hy2 HFn HQn HBn
  go_wp2_with (with_reducible (show wpList _ _ _ (Oper.mk _ (Op.call _) _ _ _ _ :: _) _ _); refine zbr9 w3 rfl (.tmp 7) (.tmp 8) rfl (r) 0 L L ?h3 _ _ M3.out _ _ ?h5 HR3.out HFT.out (r) w3 HBB.out HBG.out ?_; (case h3 => kernel_rfl); (case h5 => kernel_rfl))
  intro w4 M4 B4
  have e4 : splice (zr L) 0 (((xs.drop 8).take 244).take L) = bdy xs:=by
   rw [List.take_take,Nat.min_eq_left HM2.out,HK.out,zdu9]
   rw [<- HK.out,List.length_take,List.length_drop,HL.out]; have:=HM2.out; omega
  rw [e4] at M4
  have HF4 : Hid (Fv w4 g xs):=by
   refine ⟨?_,HF3.out.2⟩
   rw [B4.out.block g (by have:=HSr.out; omega)]
   exact HF3.out.1
  have HQ4 : Hid (w4.heap[g + 1]? = some (.cells #[.int .i64 0,.slice none 0 0] 63 (0,0))):=by show _ = _; rw [B4.out.block (g + 1) (by have:=HSr.out; omega)]; exact HQ3.out
  have HB4 : Hid (Below g w w4):=HB3.out.trans (B4.out.mono (by have:=HSr.out; omega))
  have hbl : Hid ((bdy xs).length = L):=by show _ = _; rw [<- HK.out,List.length_take,List.length_drop,HL.out]; have:=HM2.out; omega
  have HW4b : Hid (Wb w4 (.slice (some ⟨r,0,none⟩) L L) (bdy xs)):=⟨r,L,_,_,by rw [hbl.out],by rw [hbl.out]; exact zn6 _,by unfold maxLen; have:=HM2.out; omega,M4.out,by rw [List.toList_toArray,zn5 (by rw [zf9]; exact zn6 _)]⟩
  clear HF3 HQ3 HB3 HR3 HBB M3 e4
  go_wp2_with fail
  refine (zbi9 g 0 1 xs w4 HF4.out (by decide) (by decide)).mono ?_
  rintro e w5 ⟨rfl,hbn⟩
  rw [HN0.out]
  have HQ5 : Hid (w5.heap[g + 1]? = some (.cells #[.int .i64 0,.slice none 0 0] 63 (0,0))):=by show _ = _; rw [hbn.block (g + 1) (Array.getElem?_eq_some_iff.1 HQ4.out).1]; exact HQ4.out
  have HB5 : Hid (Below g w w5):=HB4.out.trans (hbn.mono (Nat.le_of_lt HF4.out.lt))
  have HW5 : Hid (Wb w5 (.slice (some ⟨r,0,none⟩) L L) (bdy xs)):=HW4b.out.below hbn
  clear hbn HF4 HQ4 HB4 HW4b M4
  have q0 : w5.cell? ⟨g + 1,0,none⟩ = some (.int .i64 0):=by rw [cell_of_row w5 (g + 1) 0 _ _ (0,0) HQ5.out]; rfl
  have q1 : w5.cell? ⟨g + 1,1,none⟩ = some (.slice none 0 0):=by rw [cell_of_row w5 (g + 1) 1 _ _ (0,0) HQ5.out]; rfl
  have f0 : w5.frozen? ⟨g + 1,0,none⟩ = false:=frozen_of_row w5 (g + 1) 0 _ _ HQ5.out
  have f1 : w5.frozen? ⟨g + 1,1,none⟩ = false:=frozen_of_row w5 (g + 1) 1 _ _ HQ5.out
  have hk0:=HB.out 0
  obtain ⟨K,hK⟩:=exH (xs.getD 0 0)
  rw [hK.out] at hk0 ⊢
  have HWB : Hid (Wb ((w5.setCell ⟨g + 1,0,none⟩ (.int .i64 K)).setCell ⟨g + 1,1,none⟩ (.slice (some ⟨r,0,none⟩) L L)) (.slice (some ⟨r,0,none⟩) L L) (bdy xs)):=by
   exact HW5.out.tch (S:=fun k => k = g + 1) (Tch.setCell (Tch.setCell (Tch.refl (fun k => k = g + 1) w5) (p:=⟨g + 1,0,none⟩) (fun _ => rfl) _) (p:=⟨g + 1,1,none⟩) (fun _ => rfl) _) (fun j hj e => by cases hj; have e2 : r = g + 1:=e; have:=HSr.out; omega)
  have HBE : Hid (Below g w ((w5.setCell ⟨g + 1,0,none⟩ (.int .i64 K)).setCell ⟨g + 1,1,none⟩ (.slice (some ⟨r,0,none⟩) L L))):=(HB5.out.setCell (by show g <= g + 1; omega) _).setCell (by show g <= g + 1; omega) _
  have HLD:=hideP (Bkv.put (show Bkv w5 (g + 1) 0 (.slice none 0 0) from HQ5.out) K (.slice (some ⟨r,0,none⟩) L L)).load
  clear HQ5 HB5 HW5
  go_wp2_with fail
  refine bodyPost_ret (v:=blk K (.slice (some ⟨r,0,none⟩) L L)) (zbj9 (p:=2) (ty:=63) rfl _ _ _ (g + 1) _ rfl HLD.out) rfl ?_
  refine ⟨_,by rw [hK.out],HWB.out,by rw [hg.out]; exact HBE.out,fun k hk => by cases hk; rw [hg.out]; show g <= r; have:=HSr.out; omega⟩
end Go.Proofs.YtjhccpijpffahaaGreat
