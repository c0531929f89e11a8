import Derived.Test.YtjhccpijpffahaaGreatPKMem
import Derived.Test.YtjhccpijpffahaaGreatPClone
import Derived.Test.YtjhccpijpffahaaGreatPUSet
import Derived.Test.YtjhccpijpffahaaGreatPBGet2
import Derived.Test.YtjhccpijpffahaaGreatPDWr
import Derived.Deep.RegionHeld3
import Derived.StillTailTactics
set_option maxRecDepth 100000
set_option linter.unusedVariables false
set_option linter.unusedSimpArgs false
set_option maxHeartbeats 8000000
namespace Go.Proofs.YtjhccpijpffahaaGreat
open Go.RowKit Go.Maps
theorem zad9 {S : Nat -> Prop} {c d : Nat} {D : DS} (n : Int) (w : World) (hc : w.cell? ⟨c,0,none⟩ = some (dp d)) (hd : Dk S w d D) :
  Calls Tryz.prog 59 #[cp c,.int .i64 n] w fun e w' => e = .returned (.bool (kthere D.L.length n)) /\ w' = w:=by
 have HS:=hideP (zrh9 w hd)
 obtain ⟨N,hN⟩:=exH D.L.length
 rw [hN.out] at HS ⊢
 unfold kthere
 clear hd
 by_cases h1 : 50 <= n
 ·by_cases h2 : n < (N : Int)
  ·have e : (decide (50 <= n) && decide (n < (N : Int))) = true:=by simp [h1,h2]
   rw [e]
   clear e
   go_enter Tryz.func59,Tryz.ntmps59
   go_wp2_with fail
   refine HS.out.mono ?_
   rintro e w ⟨rfl,rfl⟩
   go_wp2_with fail
   go_ret
   exact ⟨rfl,rfl⟩
  ·have e : (decide (50 <= n) && decide (n < (N : Int))) = false:=by simp [h2]
   rw [e]
   have h3 : decide (n < (N : Int)) = false:=by rw [zn4]; exact h2
   clear e h2
   go_enter Tryz.func59,Tryz.ntmps59
   go_wp2_with fail
   refine HS.out.mono ?_
   rintro e w ⟨rfl,rfl⟩
   go_wp2_with fail
   go_ret
   exact ⟨rfl,rfl⟩
 ·have e : (decide (50 <= n) && decide (n < (N : Int))) = false:=by simp [h1]
  rw [e]
  have h3 : decide (50 <= n) = false:=by rw [zn4]; exact h1
  clear e h1
  go_enter Tryz.func59,Tryz.ntmps59
  go_wp2_with fail
  go_ret
  exact ⟨rfl,rfl⟩
theorem zhk9 (k : Int) (v : Value) (ys : List Int) (w : World) (hr : Rd .u8 w v ys) (hl : ys.length <= 140737488355328) :
  Calls Tryz.prog 62 #[blk k v] w fun e w' => ∃ u,e = .returned (blk k u) /\ Nw w.heap.size w' u ys /\ Below w.heap.size w w':=by
 obtain ⟨W1,hW1⟩:=exN (w.alloc (.cells #[.int .i64 k,v] 63))
 obtain ⟨W2,hW2⟩:=exN (W1.alloc (.cells #[.int .i64 0,.slice none 0 0] 63))
 have s1 : W1.heap.size = w.heap.size + 1:=by rw [<- hW1]; simp
 have B2 : Hid (Below w.heap.size w W2):=by rw [<- hW2,<- hW1]; exact ((Below.refl _ _).alloc (zn6 _) _).alloc (by simp) _
 have Q1 : Hid (Bkv W2 w.heap.size k v):=by
  rw [<- hW2]
  refine Bkv.below (w:=W1) ?_ ((Below.refl _ _).alloc (zn6 _) _)
  rw [<- hW1]; exact zr9 w _ _
 have Q2 : Hid (Bkv W2 (w.heap.size + 1) 0 (.slice none 0 0)):=by rw [<- hW2,<- s1]; exact zr9 W1 _ _
 have HC : Hid (∀ W,Below W2.heap.size W2 W -> Calls Tryz.prog 94 #[v] W fun e w' => ∃ rv,e = .returned rv /\ Nw W.heap.size w' rv ys /\ Below W.heap.size W w'):=fun W hb => zml9 v ys W ((hr.below B2.out).below hb) hl
 have q0:=Q1.out.c0
 have q1:=Q1.out.c1
 obtain ⟨a,m,cap,rfl⟩ : ∃ a m cap,v = .slice a m cap:=by obtain ⟨a,c,e,_⟩:=hr; exact ⟨_,_,_,e⟩
 clear hr
 unfold blk
 go_enter Tryz.func62,Tryz.ntmps62
 go_wp2_with fail
 have B2d : Hid (Below W2.heap.size W2 W2.drew):=(Below.refl _ _).drew
 have HST : Hid (∀ W3,Below W2.drew.heap.size W2.drew W3 -> (W3.cell? ⟨w.heap.size,0,none⟩ = some (.int .i64 k) /\ W3.cell? ⟨w.heap.size,1,none⟩ = some (.slice a m cap)) /\ Bkv W3 (w.heap.size + 1) 0 (.slice none 0 0) /\ Below w.heap.size w W3):=fun W3 hb => by
  have hb' : Below W2.heap.size W2 W3:=B2d.out.trans hb
  have:=Q1.out.below hb'
  exact ⟨⟨this.c0,this.c1⟩,Q2.out.below hb',B2.out.trans (hb'.mono B2.out.size)⟩
 have HQ2:=Q2
 clear hW1 hW2 Q1 Q2
 have hS : W2.drew.cell? ⟨w.heap.size,0,none⟩ = some (.int .i64 k) /\ W2.drew.cell? ⟨w.heap.size,1,none⟩ = some (.slice a m cap):=⟨q0,q1⟩
 go_region_held3 (fun w' => w'.cell? ⟨w.heap.size,0,none⟩ = some (.int .i64 k) /\ w'.cell? ⟨w.heap.size,1,none⟩ = some (.slice a m cap)) (first | go_keep | exact hS3)
  (first
   | (go_at_call 94; refine (HC.out _ B2d.out).mono ?_; rintro e W3 ⟨rv,rfl,hN3,hB3⟩; obtain ⟨hS3,hQ3,hb3⟩:=HST.out W3 hB3; have HN3:=hideP hN3; have HQ3:=hideP hQ3; have HB3:=hideP hb3; have r0:=hQ3.c0; have r1:=hQ3.c1; have f0:=hQ3.fz 0; have f1:=hQ3.fz 1; obtain ⟨ra,rm,rc,rfl⟩ : ∃ a m cap,rv = .slice a m cap:=by { obtain ⟨a,c,e,_⟩:=hN3.rd; exact ⟨_,_,_,e⟩ }; clear hN3 hQ3 hb3 hB3))
 rename_i hHeld
 clear hHeld
 obtain ⟨W4,hW4⟩:=exH ((W3.setCell ⟨w.heap.size + 1,0,none⟩ (.int .i64 k)).setCell ⟨w.heap.size + 1,1,none⟩ (.slice ra rm rc))
 rw [hW4.out]
 have Q4 : Hid (Bkv W4 (w.heap.size + 1) k (.slice ra rm rc)):=by rw [<- hW4.out]; exact HQ3.out.put k _
 have T4 : Hid (Tch (fun j => j = w.heap.size + 1) W3 W4):=by rw [<- hW4.out]; exact (zy9 W3 _ 0 _).trans (zy9 _ _ 1 _) (fun _ _ e => e)
 have hsz : w.heap.size + 2 <= W2.heap.size:=by
  have:=B2.out.size
  have h1:=Array.getElem?_eq_some_iff.1 HQ2.out
  exact h1.1
 have N4 : Hid (Nw w.heap.size W4 (.slice ra rm rc) ys):=by
  have h1 : Nw W2.heap.size W4 (.slice ra rm rc) ys:=HN3.out.tch T4.out (fun j hj e => by have h2 : W2.heap.size <= j:=HN3.out.new j hj; omega)
  exact ⟨h1.rd,h1.fz,fun j hj => by have:=h1.new j hj; omega⟩
 have B4 : Hid (Below w.heap.size w W4):=HB3.out.trans (T4.out.below HB3.out.size (fun j e => by omega))
 have x0:=Q4.out.c0
 have x1:=Q4.out.c1
 clear hW4 HN3 HQ3 HB3 r0 r1 f0 f1 hS3 hS q0 q1 T4
 have HLD:=hideP Q4.out.load
 go_wp2_with fail
 refine bodyPost_ret (v:=blk k (.slice ra rm rc)) (zbj9 (p:=2) (ty:=63) rfl _ _ _ (w.heap.size + 1) _ rfl HLD.out) rfl ?_
 exact ⟨_,rfl,N4.out,B4.out⟩
theorem Dk.has_ok {S : Nat -> Prop} {w : World} {d : Nat} {D : DS} (h : Dk S w d D) {i : Nat} (hi : i < D.L.length) : (D.has i).length = 256 /\ By (D.has i):=by
 obtain ⟨lb,vb,lc,g,h⟩:=h
 exact DS.has_ok h hi
theorem zlg9 {S : Nat -> Prop} {c d : Nat} {D : DS} (n : Nat) (w : World) (hc : w.cell? ⟨c,0,none⟩ = some (dp d)) (hd : Dk S w d D) (hn : n < D.L.length) :
  Calls Tryz.prog 79 #[cp c,.int .i64 (n : Int)] w fun e w' => GetR (n : Int) (D.has n) w e w':=by
 have hcl:=World.block_lt_of_cell? w ⟨c,0,none⟩ hc
 obtain ⟨W1,hW1⟩:=exN (w.alloc (.cells #[.int .i64 0,.slice none 0 0] 63))
 have B1 : Hid (Below w.heap.size w W1):=by rw [<- hW1]; exact (Below.refl _ _).alloc (zn6 _) _
 have Q1 : Hid (Bkv W1 w.heap.size 0 (.slice none 0 0)):=by rw [<- hW1]; exact zr9 w _ _
 have c1 : W1.cell? ⟨c,0,none⟩ = some (dp d):=by rw [Tch.cell (Tch.of_below (S:=fun _ => False) B1.out) (p:=⟨c,0,none⟩) hcl (fun e => e)]; exact hc
 have HRD:=hideP (zra9 (n : Int) W1 (hd.below B1.out))
 have e1 : dco D (n : Int) = 0:=by unfold dco; rw [if_neg (by omega)]
 have e2 : dhs D (n : Int) = D.has n:=by unfold dhs; rw [if_neg (by omega)]; rfl
 rw [e1,e2] at HRD
 have HH : Hid (By (D.has n)):=(hd.has_ok hn).2
 obtain ⟨xs,hxs⟩:=exH (D.has n)
 rw [hxs.out] at HRD HH ⊢
 clear hd hn e1 e2 hc hcl
 go_enter Tryz.func79,Tryz.ntmps79
 go_wp2_with fail
 refine HRD.out.mono ?_
 rintro e w2 ⟨v,rfl,hz2,hb2,_⟩
 have B2 : Hid (Below w.heap.size w w2):=B1.out.trans (hb2.mono B1.out.size)
 have Q2 : Hid (Bkv w2 w.heap.size 0 (.slice none 0 0)):=Q1.out.below hb2
 have HG:=hideP (zsh9 (n : Int) v xs w2 hz2.rd HH.out)
 obtain ⟨a,m,cap,rfl⟩ : ∃ a m cap,v = .slice a m cap:=by obtain ⟨a,c,e,_⟩:=hz2.rd; exact ⟨_,_,_,e⟩
 clear hz2 hb2 Q1 B1 hW1 c1 HRD
 go_wp2_with fail
 refine HG.out.mono ?_
 rintro e w3 ⟨u,rfl,hr3,hb3,hn3⟩
 obtain ⟨k,hk⟩:=exN ((getB (n : Int) xs).1)
 obtain ⟨ec,hec⟩:=exN (getE (n : Int) xs)
 obtain ⟨ys,hys⟩:=exN ((getB (n : Int) xs).2)
 rw [hk,hec]
 rw [hys] at hr3
 have HE : Hid (getB (n : Int) xs = (k,ys) /\ getE (n : Int) xs = ec):=⟨by rw [<- hk,<- hys],hec⟩
 have B3 : Hid (Below w.heap.size w w3):=B2.out.trans (hb3.mono B2.out.size)
 have Q3 : Hid (Bkv w3 w.heap.size 0 (.slice none 0 0)):=Q2.out.below hb3
 have R3 : Hid (Rd .u8 w3 u ys):=hr3
 have N3 : Hid (∀ j,u.ownBlock = some j -> w2.heap.size <= j):=hn3
 obtain ⟨a',m',cap',rfl⟩ : ∃ a m cap,u = .slice a m cap:=by obtain ⟨a,c,e,_⟩:=hr3; exact ⟨_,_,_,e⟩
 have q0:=Q3.out.c0
 have q1:=Q3.out.c1
 have f0:=Q3.out.fz 0
 have f1:=Q3.out.fz 1
 obtain ⟨W4,hW4⟩:=exN ((w3.setCell ⟨w.heap.size,0,none⟩ (.int .i64 k)).setCell ⟨w.heap.size,1,none⟩ (.slice a' m' cap'))
 have Q4 : Hid (Bkv W4 w.heap.size k (.slice a' m' cap')):=by rw [<- hW4]; exact Q3.out.put k _
 have T4 : Hid (Tch (fun j => j = w.heap.size) w3 W4):=by rw [<- hW4]; exact (zy9 w3 _ 0 _).trans (zy9 _ _ 1 _) (fun _ _ e => e)
 have B4 : Hid (Below w.heap.size w W4):=B3.out.trans (T4.out.below B3.out.size (fun j e => by omega))
 have HLT : Hid (w.heap.size < w2.heap.size):=Q2.out.lt
 have R4 : Hid (Rd .u8 W4 (.slice a' m' cap') ys):=R3.out.tch T4.out (fun j hj e => by have:=N3.out j hj; have:=HLT.out; omega)
 have HLD:=hideP Q4.out.load
 clear hr3 hb3 hn3 hk hec hys HG Q2 B2 Q3 B3 R3 T4
 unfold blk
 go_wp2_with fail
 refine bodyPost_ret (v:=.tuple #[blk k (.slice a' m' cap'),.int .i64 ec]) (zj9 (p:=4) (ty:=63) rfl _ _ _ w.heap.size _ _ rfl HLD.out rfl) rfl ?_
 refine ⟨_,by rw [HE.out.1,HE.out.2],by rw [HE.out.1]; exact R4.out,B4.out,fun j hj => zn2 (Nat.le_of_lt HLT.out) (N3.out j hj)⟩
def CS.new (room : Nat) : CS:=⟨room,fun _ => (0,[]),[],[]⟩
theorem zte9 (d N room : Nat) (w : World) (h1 : 1 <= room) (h2 : room <= 1024) (hN : N <= 4096) : Calls Tryz.prog 34 #[dp d,.int .i64 (room : Int)] w fun e w' =>
  ∃ c X,e = .returned (.tuple #[cp c,.int .i64 0]) /\ Ch X w' c d N (CS.new room) /\ Below w.heap.size w w' /\ ∀ k,X k -> w.heap.size <= k:=by
 have hmm:=@run_makeMap Tryz.prog
 have ha : decide ((room : Int) < 1) = false:=by rw [zn4]; omega
 have hb : decide ((room : Int) > 1024) = false:=by rw [zn4]; omega
 have hb2 : decide ((1024 : Int) < (room : Int)) = false:=by rw [zn4]; omega
 have hb3 : decide (1024 < room) = false:=by rw [zn4]; omega
 go_enter Tryz.func34,Tryz.ntmps34
 go_wp2_with fail
 go_ret2
 have M1 : Mp (w.alloc (.map #[] 0)) w.heap.size N (fun _ => none):=mp_of (World.ownsMap_made w _ _ _) (by rw [zeh9 (fun _ _ => rfl)])
 have hsz : (w.alloc (.map #[] 0)).heap.size = w.heap.size + 1:=by simp
 refine ⟨w.heap.size + 1,fun k => w.heap.size <= k /\ k < w.heap.size + 2,by first | rfl | simp,⟨w.heap.size,.slice none 0 0,fun _ => .slice none 0 0,?_⟩,?_,fun k hk => hk.1⟩
 ·exact {
   n2:=hN
   box:=by rw [<- hsz]; exact heap_alloc_new _ _
   map:=by
    refine Mp.congr (g:=fun _ => none) (M1.tch (S:=fun _ => False) (Tch.of_below ((Below.refl _ _).alloc (zn6 _) _)) (fun e => e)) (fun i _ => ?_)
    simp [kg,CS.new]
   ord:=zda9 _ _ _
   bod:=fun n hn => by simp [CS.new] at hn
   bap:=fun n hn => by simp [CS.new] at hn
   ok:=⟨h1,h2,List.Pairwise.nil,List.nodup_nil,fun n hn => by simp [CS.new] at hn,fun n hn => by simp [CS.new] at hn,fun n hn => by simp [CS.new] at hn,fun n hn => by simp [CS.new] at hn⟩
   xc:=⟨by omega,by omega⟩
   xm:=⟨by omega,by omega⟩
   xa:=fun k hk => by cases hk
   xlt:=fun k hk => by simp; exact hk.2 }
 ·exact ((Below.refl _ _).alloc (zn6 _) _).alloc (by simp) _
def CS.kp (s : CS) (n : Nat) (x : Int × List Int) : CS:={ s with B:=bput s.B n x,d:=kwo s.d n,c:=kwo s.c n ++ [n] }
theorem COk.kp {N : Nat} {s : CS} (h : COk N s) {n : Nat} {x : Int × List Int} (hn : 50 <= n /\ n < N) (hm : mayK (n : Int) x.1 x.2.length = true) (hb : By x.2) : COk N (s.kp n x):=by
 have mem : ∀ m,m ∈ kwo s.c n ++ [n] -> m = n ∨ (m ∈ s.c /\ m ≠ n):=fun m hm => by
  rcases List.mem_append.1 hm with e | e
  ·exact .inr ⟨(zi9.1 e).1,fun e2 => (zi9.1 e).2 (by omega)⟩
  ·exact .inl (by simpa using e)
 exact {
  r1:=h.r1
  r2:=h.r2
  dr:=zfj9 _ h.dr
  cn:=zgu9 h.cn
  ap:=fun m hm hc => by
   rcases mem m hc with e | e
   ·exact (zi9.1 hm).2 (by omega)
   ·exact h.ap m (zi9.1 hm).1 e.1
  dl:=fun m hm => h.dl m (zi9.1 hm).1
  cl:=fun m hm => by
   rcases mem m hm with e | e
   ·rw [e]; exact hn
   ·exact h.cl m e.1
  may:=fun m hm' => by
   show mayK (m : Int) (bput s.B n x m).1 (bput s.B n x m).2.length = true /\ By (bput s.B n x m).2
   by_cases e : m = n
   ·subst e; rw [zcl9]; exact ⟨hm,hb⟩
   ·rw [zbh9 _ _ e]
    refine h.may m (hm'.imp (fun e2 => (zi9.1 e2).1) (fun e2 => ?_))
    rcases mem m e2 with e3 | e3
    ·exact absurd e3 e
    ·exact e3.1 }
theorem zsz9 {s : CS} {n : Nat} {x : Int × List Int} (h : ¬ s.rm < (kwo s.c n).length + 1) : s.kp n x = s.keep n x:=by
 unfold CS.kp CS.keep kask
 rw [if_neg h]
theorem znc9 {N : Nat} {s : CS} (ho : COk N s) {n : Nat} {x : Int × List Int} (h : s.rm < (kwo s.c n).length + 1) : ∃ m,(kwo s.c n ++ [n]).head? = some m /\ (s.kp n x).forget (m : Int) = s.keep n x:=by
 obtain ⟨m,h1,h2,h3⟩:=zmw9 ho.cn h ho.r1
 refine ⟨m,h1,?_⟩
 unfold CS.forget CS.kp CS.keep
 simp only
 rw [h3,zhg9 (l:=kwo s.d n) (n:=(m : Int))]
 intro a ha e
 have e : a = m:=by omega
 subst e
 have hm : a ∈ kwo s.c n ++ [n]:=List.mem_of_mem_head? h1
 rcases List.mem_append.1 hm with e | e
 ·exact ho.ap a (zi9.1 ha).1 (zi9.1 e).1
 ·exact h2 (by simpa using e)
def vputK (V : Nat -> Value) (n : Nat) (v : Value) (m : Nat) : Value:=if m = n then v else V m
theorem kg_kp (s : CS) (V : Nat -> Value) (n : Nat) (k : Int) (ys : List Int) (v : Value) : gput (kg s V) n (some (hent k v false)) = kg (s.kp n (k,ys)) (vputK V n v):=by
 funext i
 unfold gput kg CS.kp vputK bput
 simp only [zi9,List.mem_append,List.mem_singleton]
 by_cases e : i = n
 ·subst e
  simp
 ·have : (i : Int) ≠ (n : Int):=by omega
  simp [e,this]
theorem ziz9 {ops : Array Oper} {rest : List Oper} {o : Oper} {a : Act} {w : World} {Q : Exit -> Act -> World -> Prop} (hgd : o.guard = none) (m x v : Operand) (ho : o.op = .mapUpdate 128 m x v)
  (mb N : Nat) (g : Nat -> Option Value) (i : Nat) (val : Value) (hm : a.eval m = .map (some mb)) (hx : a.eval x = .int .i64 (i : Int)) (hv : a.eval v = val) (hM : Mp w mb N g) (hi : i < N) (hn : N <= 4096) (h : ∀ w',Mp w' mb N (gput g i (some val)) -> Tch (fun k => k = mb) w w' -> wpList Tryz.prog ops Q rest (a.put o.dst undef) w') : wpList Tryz.prog ops Q (o :: rest) a w:=by
 obtain ⟨w',hr,h1,h2⟩:=hM.putH hi hn val
 refine wpList_plain hgd fun K hK => ?_
 unfold Oper.wp
 simp [execOp,ho,hm,hx,hv,hr,Result.andThen]
 exact hK _ _ (h w' h1 h2)
theorem elemI : Elem Tryz.prog 56 3 .i64 8:=⟨Tryz.underlying56,info_parts (z:=.int .i64 0) (size:=1) (bytes:=8) (by kernel_rfl)⟩
theorem zkm9 {X : Nat -> Prop} {c d N : Nat} {s : CS} {mb : Nat} {av : Value} {V : Nat -> Value} (n : Nat) (k : Int) (v : Value) (ys : List Int) (w : World) (h : ChAt X w c d N s mb av V) (hn : 50 <= n /\ n < N) (hm : mayK (n : Int) k ys.length = true) (hb : By ys) (hr : Rd .u8 w v ys)
  (hv : ∀ j,v.ownBlock = some j -> ys ≠ [] -> X j /\ j ≠ c /\ j ≠ mb /\ av.ownBlock ≠ some j) :
  Calls Tryz.prog 70 #[cp c,.int .i64 (n : Int),blk k v] w fun e w' => e = .returned (.tuple #[]) /\ ChTo X w w' c d N (s.keep n (k,ys)) /\ Rd .u8 w' v ys:=by
 have H : Hid (ChAt X w c d N s mb av V):=h
 have HY : Hid ((50 <= n /\ n < N) /\ mayK (n : Int) k ys.length = true /\ By ys):=⟨hn,hm,hb⟩
 have HV : Hid (∀ j,v.ownBlock = some j -> ys ≠ [] -> X j /\ j ≠ c /\ j ≠ mb /\ av.ownBlock ≠ some j):=hv
 have HRd : Hid (Rd .u8 w v ys):=hr
 obtain ⟨W1,hW1⟩:=exN (w.alloc (.cells #[.int .i64 k,v] 63))
 have B1 : Hid (Below w.heap.size w W1):=by rw [<- hW1]; exact (Below.refl _ _).alloc (zn6 _) _
 have Q1 : Hid (Bkv W1 w.heap.size k v):=by rw [<- hW1]; exact zr9 w _ _
 have H1 : Hid (ChAt X W1 c d N s mb av V):=h.tch (R:=fun _ => False) (Tch.of_below B1.out) (fun _ _ e => e)
 have HL:=hideP (zen9 (n : Int) W1 H1.out.box H1.out.ord H1.out.ok.cn (by have:=h.ok.cle; have:=h.n2; omega))
 have hn2 : (n : Int) < 4096:=by have:=h.n2; omega
 obtain ⟨a,m,cap,rfl⟩ : ∃ a m cap,v = .slice a m cap:=by obtain ⟨a,c,e,_⟩:=hr; exact ⟨_,_,_,e⟩
 clear h hn hm hb hr hv
 unfold blk
 go_enter Tryz.func70,Tryz.ntmps70
 go_wp2_with fail
 refine HL.out.mono ?_
 rintro e w2 ⟨rfl,av2,hb2,ho2,hv2,ht2⟩
 have HB2 : Hid (w2.heap[c]? = some (.cells #[dp d,.int .i64 (s.rm : Int),.map (some mb),av2] 130 (0,0))):=hb2
 have HO2 : Hid (OwnsK w2 av2 ((kwo s.c n).map Int.ofNat)):=ho2
 have HV2 : Hid (av2.ownBlock = av.ownBlock):=hv2
 have T2 : Hid (Tch (fun k => k = c ∨ av.ownBlock = some k) w w2):=(Tch.of_below B1.out).trans ht2 (fun _ _ e => e)
 have M2 : Hid (Mp w2 mb N (kg s V)):=H.out.map.tch T2.out (fun e => by
  rcases e with e | e
  ·exact H.out.ne_mb e.symm
  ·exact H.out.av_mb e)
 have Q2 : Hid (Bkv w2 w.heap.size k (.slice a m cap)):=Q1.out.tch ht2 (fun e => by
  rcases e with e | e
  ·have:=H.out.lt; omega
  ·have:=H.out.xlt _ (H.out.xa _ e); omega)
 have c2 : w2.cell? ⟨c,2,none⟩ = some (.map (some mb)):=by rw [cell_of_row w2 c 2 _ _ (0,0) hb2]; rfl
 have q0:=Q2.out.c0
 have q1:=Q2.out.c1
 have LD:=Q2.out.load
 clear hb2 ho2 hv2 ht2 HL H1 Q1 hW1
 go_wp2_with fail
 refine wp_region_still_tail 7 (by kernel_rfl) (by kernel_rfl) ?_
 simp only [List.take_succ_cons,List.take_zero,List.drop_succ_cons,List.drop_zero]
 repeat still_step
 refine wpStill_nil ?_
 change wpList _ _ _ _ _ w2.drew
 have MD : Hid (Mp w2.drew mb N (kg s V)):=M2.out.tch (S:=fun _ => False) ⟨rfl,rfl,rfl,zn6 _,fun _ _ _ => rfl⟩ (fun e => e)
 refine ziz9 rfl (.tmp 12) (.tmp 13) (.tmp 15) rfl mb N (kg s V) n (hent k (.slice a m cap) false) (by kernel_rfl) (by kernel_rfl) (by kernel_rfl) MD.out HY.out.1.2 H.out.n2 ?_
 intro w3 m3 t3
 have T3 : Hid (Tch (fun k => k = c ∨ av.ownBlock = some k ∨ k = mb) w w3):=((T2.out.drew).mono (S':=fun k => k = c ∨ av.ownBlock = some k ∨ k = mb) (fun k _ e => e.imp id .inl)).trans t3 (fun k _ e => .inr (.inr e))
 have M3 : Hid (Mp w3 mb N (gput (kg s V) n (some (hent k (.slice a m cap) false)))):=m3
 have HB3 : Hid (w3.heap[c]? = some (.cells #[dp d,.int .i64 (s.rm : Int),.map (some mb),av2] 130 (0,0))):=by
  rw [t3.block c (Array.getElem?_eq_some_iff.1 HB2.out).1 H.out.ne_mb]; exact HB2.out
 have HO3 : Hid (OwnsK w3 av2 ((kwo s.c n).map Int.ofNat)):=(HO2.out.tch (S:=fun _ => False) (w':=w2.drew) ⟨rfl,rfl,rfl,zn6 _,fun _ _ _ => rfl⟩ (fun _ _ e => e)).tch t3 (fun k hk e => H.out.av_mb (by rw [HV2.out] at hk; rw [<- e]; exact hk))
 have HLen : Hid (((kwo s.c n).map Int.ofNat).length <= 100000):=by
  show _ <= _
  rw [List.length_map]
  have h1:=zta9 s.c n
  have h2:=H.out.ok.cle
  have h3:=H.out.n2
  omega
 have c3 : w3.cell? ⟨c,3,none⟩ = some av2:=by rw [cell_of_row w3 c 3 _ _ (0,0) HB3.out]; rfl
 clear m3 t3 MD M2 T2 HB2 HO2 Q2 c2 q0 q1 LD B1
 go_wp2_with (at_builtin; refine zeb9 _ rfl (.tmp 20) (.tmp 22) 56 rfl 3 .i64 8 elemI _ ((kwo s.c n).map Int.ofNat) rfl HO3.out (n : Int) rfl (by have:=HLen.out; omega) (by have:=HLen.out; omega) ?_)
 intro v4 w4 o4 g4
 have T4 : Hid (Tch (fun k => k = c ∨ av.ownBlock = some k ∨ k = mb) w w4):=T3.out.trans g4.tch (fun k _ e => .inr (.inl (by rw [<- HV2.out]; exact e)))
 have hne : av2.ownBlock ≠ some c:=fun e => H.out.av_c (by rw [<- HV2.out]; exact e)
 have HB4 : Hid (w4.heap[c]? = some (.cells #[dp d,.int .i64 (s.rm : Int),.map (some mb),av2] 130 (0,0))):=by
  rw [g4.tch.block c (Array.getElem?_eq_some_iff.1 HB3.out).1 hne]; exact HB3.out
 have M4 : Hid (Mp w4 mb N (gput (kg s V) n (some (hent k (.slice a m cap) false)))):=M3.out.tch g4.tch (fun e => H.out.av_mb (by rw [<- HV2.out]; exact e))
 have F4 : Hid (∀ k,v4.ownBlock = some k -> av.ownBlock = some k ∨ w.heap.size <= k):=fun k hk => by
  rcases g4.fresh k hk with e | e
  ·exact .inl (by rw [<- HV2.out]; exact e)
  ·exact .inr (zn2 T3.out.size e)
 have d3 : w4.cell? ⟨c,3,none⟩ = some av2:=by rw [cell_of_row w4 c 3 _ _ (0,0) HB4.out]; rfl
 have f3 : w4.frozen? ⟨c,3,none⟩ = false:=frozen_of_row w4 c 3 _ _ HB4.out
 have O4 : Hid (OwnsK w4 v4 (((kwo s.c n) ++ [n]).map Int.ofNat)):=by
  rw [List.map_append]; exact o4
 obtain ⟨W5,hW5⟩:=exN (w4.setCell ⟨c,3,none⟩ v4)
 have HR5 : Hid (ChAt (fun k => X k ∨ (w.heap.size <= k /\ k < W5.heap.size)) W5 c d N (s.kp n (k,ys)) mb v4 (vputK V n (.slice a m cap)) /\ Tch X w W5 /\ Rd .u8 W5 (.slice a m cap) ys):=by
  have ts : Tch (fun k => k = c) w4 W5:=by rw [<- hW5]; exact zy9 w4 c 3 v4
  have vc : v4.ownBlock ≠ some c:=fun e => by
   rcases F4.out c e with e | e
   ·exact H.out.av_c e
   ·have:=H.out.lt; omega
  have TT:=T4.out.trans ts (fun k _ e => .inl e)
  have RR : Rd .u8 W5 (.slice a m cap) ys:=HRd.out.tch0 TT (fun i hi h0 e => by
   obtain ⟨_,p1,p2,p3⟩:=HV.out i hi h0
   rcases e with e | e | e
   ·exact p1 e
   ·exact p3 e
   ·exact p2 e)
  refine ⟨H.out.turnAt (V':=vputK V n (.slice a m cap)) (av':=v4) (s':=s.kp n (k,ys)) TT ?_ ?_ ?_ F4.out (H.out.ok.kp HY.out.1 HY.out.2.1 HY.out.2.2) (fun j hj => ?_),H.out.own_tch TT,RR⟩
  ·rw [<- hW5,heap_setCell_same w4 c 3 _ _ _ HB4.out]; rfl
  ·rw [<- kg_kp]; exact M4.out.tch ts (fun e => H.out.ne_mb e.symm)
  ·exact O4.out.tch ts (fun k hk e => vc (by rw [<- e]; exact hk))
  ·by_cases e : j = n
   ·subst e
    have e1 : vputK V j (.slice a m cap) j = .slice a m cap:=by simp [vputK]
    have e2 : ((s.kp j (k,ys)).B j) = (k,ys):=by show bput s.B j (k,ys) j = _; simp [bput]
    rw [e1,e2]
    refine .inr ⟨RR,fun i hi h0 => ?_⟩
    ·obtain ⟨p0,p1,p2,p3⟩:=HV.out i hi h0
     refine ⟨.inl p0,p1,p2,fun e => ?_⟩
     rcases F4.out i e with e | e
     ·exact p3 e
     ·have:=H.out.xlt i p0; omega
   ·refine .inl ⟨?_,by simp [vputK,e],by show bput s.B n (k,ys) j = _; simp [bput,e]⟩
    rcases hj with hj | hj
    ·exact .inl (zi9.1 hj).1
    ·rcases List.mem_append.1 hj with e2 | e2
     ·exact .inr (zi9.1 e2).1
     ·exact absurd (by simpa using e2) e
 obtain ⟨va,vl,vcp,rfl⟩ : ∃ a l c,v4 = .slice a l c:=by obtain ⟨a,c,e,_⟩:=o4.rd; exact ⟨_,_,_,e⟩
 obtain ⟨h5,T5,R5⟩:=HR5.out
 obtain ⟨X5,hX5⟩ : ∃ X5 : Nat -> Prop,(fun k => X k ∨ (w.heap.size <= k /\ k < W5.heap.size)) = X5:=⟨_,rfl⟩
 have hX5' : ∀ k,X5 k -> X k ∨ w.heap.size <= k:=fun k hk => by rw [<- hX5] at hk; exact hk.imp id (fun e => e.1)
 obtain ⟨V5,hV5⟩:=exN (vputK V n (.slice a m cap))
 have HF5 : Hid (∀ k,(Value.slice va vl vcp).ownBlock = some k -> av.ownBlock = some k ∨ w.heap.size <= k):=F4
 rw [hX5,hV5] at h5
 have H5 : Hid (ChAt X5 W5 c d N (s.kp n (k,ys)) mb (.slice va vl vcp) V5):=h5
 have HR5d : Hid (Rd .u8 W5 (.slice a m cap) ys):=R5
 clear hX5 hV5 R5
 obtain ⟨g5,cap5,hsl,_,hc5,hm5,hcell5,_⟩:=h5.ord.shape (by simp [CS.kp])
 have hl5 : ((s.kp n (k,ys)).c.map Int.ofNat).length = (kwo s.c n).length + 1:=by simp [CS.kp]
 obtain ⟨L,hL⟩:=exH ((kwo s.c n).length + 1)
 rw [hl5,hL.out] at hc5
 have x3:=h5.c3
 rw [hsl] at x3
 have x1 : W5.cell? ⟨c,1,none⟩ = some (.int .i64 (s.rm : Int)):=h5.c1
 rw [hl5,hL.out] at x3
 have hc6 : cap5 <= 9223372036854775807:=by unfold maxLen at hm5; omega
 have hL0 : 0 < L:=by rw [<- hL.out]; omega
 have y0:=hcell5 0 (by simp [CS.kp])
 have T5' : Hid (Tch X w W5 /\ ∀ k,X5 k -> X k ∨ w.heap.size <= k):=⟨T5,hX5'⟩
 have hr2 : (s.rm : Int) <= 1024:=by have:=H.out.ok.r2; omega
 clear o4 g4 T4 HB4 M4 F4 O4 HR5 T3 M3 HB3 HO3 c3 T5 hX5' h5 hcell5 hl5 hm5 hne hsl
 by_cases hov : s.rm < L
 ·obtain ⟨m5,hm5,hkf⟩:=znc9 H.out.ok (n:=n) (x:=(k,ys)) (by rw [hL.out]; exact hov)
  have ym : ((s.kp n (k,ys)).c.map Int.ofNat).getD 0 0 = (m5 : Int):=by
   show (((kwo s.c n) ++ [n]).map Int.ofNat).getD 0 0 = _
   cases e : kwo s.c n ++ [n] with
   | nil => rw [e] at hm5; cases hm5
   | cons a r => rw [e] at hm5; simp at hm5; subst hm5; rfl
  rw [ym] at y0
  have hm4 : m5 < 4096:=by
   have h1 : m5 ∈ (s.kp n (k,ys)).c:=List.mem_of_mem_head? hm5
   have h2:=(H5.out.ok.cl m5 h1).2
   have h3:=H.out.n2
   omega
  have HKF : Hid ((s.kp n (k,ys)).forget (m5 : Int) = s.keep n (k,ys)):=hkf
  have hov2 : (L : Int) > (s.rm : Int):=by omega
  have hm6 : Hid ((Lit.int .i64 (m5 : Int)).wf = true):=by simp [Hid,Lit.wf,IntKind.min,IntKind.max,IntKind.signed,IntKind.bits]; omega
  clear hm5 hkf ym hm4
  go_wp2_with fail
  go_quiet (fail)
  obtain ⟨W6,hW6⟩:=exH (W5.drewN nq)
  rw [hW6.out]
  have T6 : Hid (Tch (fun _ => False) W5 W6):=by rw [<- hW6.out]; exact ⟨rfl,rfl,rfl,zn6 _,fun _ _ _ => rfl⟩
  have H6:=hideP (H5.out.tch T6.out (fun _ _ e => e))
  have z3 : W6.cell? ⟨c,3,none⟩ = some (.slice (some ⟨g5,0,none⟩) L cap5):=by rw [<- hW6.out]; exact x3
  have z0 : W6.cell? ⟨g5,0,none⟩ = some (.int .i64 (m5 : Int)):=by rw [<- hW6.out]; exact y0
  have HF:=hideP (zha9 (m5 : Int) W6 H6.out hm6.out)
  rw [HKF.out] at HF
  have TT : Hid (Tch X w W6):=T5'.out.1.trans T6.out (fun _ _ e => e.elim)
  clear x3 x1 y0 H5 hW6 hW5
  go_wp2_with fail
  refine HF.out.mono ?_
  rintro e w7 ⟨rfl,av7,h7,t7⟩
  have HR : Hid (ChTo X w w7 c d N (s.keep n (k,ys)) /\ Rd .u8 w7 (.slice a m cap) ys):=by
   refine ⟨ChTo.after TT.out T5'.out.2 ⟨_,⟨_,_,_,h7⟩,H6.out.own_tch t7,fun k hk => hk.imp id (fun e => e.1)⟩,?_⟩
   refine (HR5d.out.tch T6.out (fun _ _ e => e)).tch0 t7 (fun i hi h0 e => ?_)
   obtain ⟨p0,p1,p2,p3⟩:=HV.out i hi h0
   rcases e with e | e | e
   ·exact p1 e
   ·rcases HF5.out i e with e | e
    ·exact p3 e
    ·have:=H.out.xlt i p0; omega
   ·exact p2 e
  clear h7 t7 HF
  go_wp2_with fail
  go_end0
  exact ⟨rfl,HR.out⟩
 ·have hov2 : decide (s.rm < L) = false:=by rw [zn4]; exact hov
  have HKP : Hid (s.kp n (k,ys) = s.keep n (k,ys)):=zsz9 (by rw [hL.out]; exact hov)
  clear hov
  go_wp2_with fail
  go_quiet (fail)
  obtain ⟨W6,hW6⟩:=exH (W5.drewN nq)
  rw [hW6.out]
  have T6 : Hid (Tch (fun _ => False) W5 W6):=by rw [<- hW6.out]; exact ⟨rfl,rfl,rfl,zn6 _,fun _ _ _ => rfl⟩
  have H6:=hideP (H5.out.tch T6.out (fun _ _ e => e))
  have HR : Hid (ChTo X w W6 c d N (s.keep n (k,ys)) /\ Rd .u8 W6 (.slice a m cap) ys):=by
   refine ⟨?_,HR5d.out.tch T6.out (fun _ _ e => e)⟩
   rw [<- HKP.out]
   exact ⟨X5,⟨_,_,_,H6.out⟩,T5'.out.1.trans T6.out (fun _ _ e => e.elim),T5'.out.2⟩
  clear x3 x1 y0 H5 hW6 hW5 H6
  go_wp2_with fail
  go_end0
  exact ⟨rfl,HR.out⟩
theorem kg_lay (s : CS) (V : Nat -> Value) (n : Nat) (k : Int) (ys : List Int) (v : Value) : gput (kg s V) n (some (hent k v true)) = kg (s.lay n (k,ys)) (vputK V n v):=by
 funext i
 unfold gput kg CS.lay vputK bput
 simp only [zi9,zbo9]
 by_cases e : i = n
 ·subst e
  simp
 ·have : (i : Int) ≠ (n : Int):=by omega
  simp [e,this]
theorem ztj9 {X S : Nat -> Prop} {c d N : Nat} {s : CS} {D : DS} (n : Nat) (k : Int) (v : Value) (ys : List Int) (w : World) (hC : Ch X w c d N s) (hD : Dk S w d D) (hN : D.L.length = N) (hr : Rd .u8 w v ys) (hb : By ys) (hv : ∀ j,v.ownBlock = some j -> ys ≠ [] -> ¬ X j)
  (hn : 50 <= n /\ n < N) (hm : mayK (n : Int) k ys.length = true) :
  Calls Tryz.prog 27 #[cp c,.int .i64 (n : Int),blk k v] w fun e w' => e = .returned (.int .i64 0) /\ ChTo X w w' c d N (s.lay n (k,ys)):=by
 obtain ⟨mb,av,V,h⟩:=hC
 have H : Hid (ChAt X w c d N s mb av V):=h
 have HY : Hid ((50 <= n /\ n < N) /\ mayK (n : Int) k ys.length = true /\ By ys):=⟨hn,hm,hb⟩
 have HV : Hid (∀ j,v.ownBlock = some j -> ys ≠ [] -> ¬ X j):=hv
 have HRd : Hid (Rd .u8 w v ys):=hr
 obtain ⟨W1,hW1⟩:=exN (w.alloc (.cells #[.int .i64 k,v] 63))
 have B1 : Hid (Below w.heap.size w W1):=by rw [<- hW1]; exact (Below.refl _ _).alloc (zn6 _) _
 have Q1 : Hid (Bkv W1 w.heap.size k v):=by rw [<- hW1]; exact zr9 w _ _
 have H1 : Hid (ChAt X W1 c d N s mb av V):=h.tch (R:=fun _ => False) (Tch.of_below B1.out) (fun _ _ e => e)
 have HT:=hideP (zad9 (n : Int) W1 H1.out.c0 (hD.below B1.out))
 have et : kthere D.L.length (n : Int) = true:=zo9.2 (by omega)
 rw [et] at HT
 have HP:=hideP (zoy9 (n : Int) k v ys W1 (hr.below B1.out) hb)
 obtain ⟨a,m,cap,rfl⟩ : ∃ a m cap,v = .slice a m cap:=by obtain ⟨a,c,e,_⟩:=hr; exact ⟨_,_,_,e⟩
 have q0:=Q1.out.c0
 have q1:=Q1.out.c1
 have hn4 : (n : Int) < 4096:=by have:=h.n2; omega
 have HYL : Hid (ys.length <= 140737488355328):=by obtain ⟨_,_,_,_,m5⟩:=zv9.1 hm; show _ <= _; omega
 clear h hn hm hb hr hv hD hN et
 unfold blk at HP ⊢
 go_enter Tryz.func27,Tryz.ntmps27
 go_wp2_with fail
 refine HT.out.mono ?_
 rintro e w' ⟨rfl,rfl⟩
 clear HT
 go_wp2_with fail
 refine HP.out.mono ?_
 rintro e w2 ⟨u,ec,rfl,hb2,hn2,hor⟩
 rcases hor with ⟨_,rfl,hw2,g,rfl⟩ | ⟨h0,_⟩
 ·have B2 : Hid (Below w.heap.size w w2):=B1.out.trans (hb2.mono B1.out.size)
  have Q2 : Hid (Bkv w2 w.heap.size k (.slice a m cap)):=Q1.out.below hb2
  have H2 : Hid (ChAt X w2 c d N s mb av V):=H.out.tch (R:=fun _ => False) (Tch.of_below B2.out) (fun _ _ e => e)
  have HL:=hideP (zen9 (n : Int) w2 H2.out.box H2.out.ord H2.out.ok.cn (by have:=H2.out.ok.cle; have:=H2.out.n2; omega))
  clear hb2 hn2 hw2 HP hW1 q0 q1 Q1 H1 B1
  go_wp2_with fail
  refine HL.out.mono ?_
  rintro e w3 ⟨rfl,av3,hb3,ho3,hv3,ht3⟩
  have HB3 : Hid (w3.heap[c]? = some (.cells #[dp d,.int .i64 (s.rm : Int),.map (some mb),av3] 130 (0,0))):=hb3
  have HO3 : Hid (OwnsK w3 av3 ((kwo s.c n).map Int.ofNat)):=ho3
  have HV3 : Hid (av3.ownBlock = av.ownBlock):=hv3
  have T3 : Hid (Tch (fun k => k = c ∨ av.ownBlock = some k) w w3):=(Tch.of_below B2.out).trans ht3 (fun _ _ e => e)
  have M3 : Hid (Mp w3 mb N (kg s V)):=H.out.map.tch T3.out (fun e => by
   rcases e with e | e
   ·exact H.out.ne_mb e.symm
   ·exact H.out.av_mb e)
  have Q3 : Hid (Bkv w3 w.heap.size k (.slice a m cap)):=Q2.out.tch ht3 (fun e => by
   rcases e with e | e
   ·have:=H.out.lt; omega
   ·have:=H.out.xlt _ (H.out.xa _ e); omega)
  have R3 : Hid (Rd .u8 w3 (.slice a m cap) ys):=HRd.out.tch0 T3.out (fun j hj h0 e => by
   rcases e with e | e
   ·exact HV.out j hj h0 (by rw [e]; exact H.out.xc)
   ·exact HV.out j hj h0 (H.out.xa j e))
  have c2 : w3.cell? ⟨c,2,none⟩ = some (.map (some mb)):=by rw [cell_of_row w3 c 2 _ _ (0,0) hb3]; rfl
  have q0:=Q3.out.c0
  have q1:=Q3.out.c1
  have HOW:=hideP (zhk9 k (.slice a m cap) ys w3.drew (R3.out.tch (S:=fun _ => False) ⟨rfl,rfl,rfl,zn6 _,fun _ _ _ => rfl⟩ (fun _ _ e => e)) HYL.out)
  unfold blk at HOW
  have HST : Hid (∀ W4 u,Nw w3.drew.heap.size W4 u ys -> Below w3.drew.heap.size w3.drew W4 -> (W4.cell? ⟨c,2,none⟩ = some (.map (some mb)) /\ W4.cell? ⟨w.heap.size,0,none⟩ = some (.int .i64 k) /\ W4.cell? ⟨w.heap.size,1,none⟩ = some (.slice a m cap)) ∧
    ∃ W5,(Instr.mapUpdate 128 (.map (some mb)) (.int .i64 (n : Int)) (.agg #[.int .i64 k,u,.bool true])).run Tryz.prog W4 = .ok () W5 /\ (W5.cell? ⟨c,2,none⟩ = some (.map (some mb)) /\ W5.cell? ⟨w.heap.size,0,none⟩ = some (.int .i64 k) /\ W5.cell? ⟨w.heap.size,1,none⟩ = some (.slice a m cap)) /\ Hid (ChTo X w W5 c d N (s.lay n (k,ys)))):=fun W4 u hN hB => by
   have t34 : Tch (fun _ => False) w3 W4:=Tch.trans (b:=w3.drew) (S:=fun _ => False) (S':=fun _ => False) ⟨rfl,rfl,rfl,zn6 _,fun _ _ _ => rfl⟩ (Tch.of_below hB) (fun _ _ e => e)
   have b4 : W4.heap[c]? = some (.cells #[dp d,.int .i64 (s.rm : Int),.map (some mb),av3] 130 (0,0)):=by rw [t34.block c (Array.getElem?_eq_some_iff.1 HB3.out).1 (fun e => e)]; exact HB3.out
   have q4:=Q3.out.tch t34 (fun e => e)
   obtain ⟨W5,hrun,m5,t5⟩:=(M3.out.tch t34 (fun e => e)).putH HY.out.1.2 H.out.n2 (.agg #[.int .i64 k,u,.bool true])
   have b5 : W5.heap[c]? = some (.cells #[dp d,.int .i64 (s.rm : Int),.map (some mb),av3] 130 (0,0)):=by rw [t5.block c (Array.getElem?_eq_some_iff.1 b4).1 H.out.ne_mb]; exact b4
   have q5:=q4.tch t5 (fun e => by have:=H.out.xlt _ H.out.xm; omega)
   refine ⟨⟨by rw [cell_of_row W4 c 2 _ _ (0,0) b4]; rfl,q4.c0,q4.c1⟩,W5,hrun,⟨by rw [cell_of_row W5 c 2 _ _ (0,0) b5]; rfl,q5.c0,q5.c1⟩,?_⟩
   have hnew : ∀ j,u.ownBlock = some j -> w.heap.size <= j:=fun j hj => zn2 T3.out.size (hN.new j hj)
   refine H.out.turn (V':=vputK V n u) (av':=av3) (s':=s.lay n (k,ys)) (((T3.out.mono (S':=fun k => k = c ∨ av.ownBlock = some k ∨ k = mb) (fun k _ e => e.imp id .inl)).trans t34 (fun _ _ e => e.elim)).trans t5 (fun k _ e => .inr (.inr e))) b5 (by rw [<- kg_lay]; exact m5) ?_ (fun k hk => .inl (by rw [<- HV3.out]; exact hk)) (H.out.ok.lay HY.out.1 HY.out.2.1 HY.out.2.2) (fun j hj => ?_)
   ·exact (HO3.out.tch t34 (fun _ _ e => e)).tch t5 (fun k hk e => H.out.av_mb (by rw [HV3.out] at hk; rw [<- e]; exact hk))
   ·by_cases e : j = n
    ·subst e
     have e1 : vputK V j u j = u:=by simp [vputK]
     have e2 : ((s.lay j (k,ys)).B j) = (k,ys):=by show bput s.B j (k,ys) j = _; simp [bput]
     rw [e1,e2]
     refine .inr ⟨hN.rd.tch t5 (fun i hi e => ?_),fun i hi h0 => ⟨.inr (hnew i hi),?_,?_,fun e => ?_⟩⟩
     ·have:=hnew i hi; have:=H.out.xlt _ H.out.xm; omega
     ·have:=hnew i hi; have:=H.out.lt; omega
     ·have:=hnew i hi; have:=H.out.xlt _ H.out.xm; omega
     ·have h1:=hnew i hi
      rw [HV3.out] at e
      have:=H.out.xlt i (H.out.xa i e)
      omega
    ·refine .inl ⟨?_,by simp [vputK,e],by show bput s.B n (k,ys) j = _; simp [bput,e]⟩
     rcases hj with hj | hj
     ·rcases zbo9.1 hj with e2 | e2
      ·exact absurd e2 e
      ·exact .inl e2
     ·exact .inr (zi9.1 hj).1
  have hS : w3.drew.cell? ⟨c,2,none⟩ = some (.map (some mb)) /\ w3.drew.cell? ⟨w.heap.size,0,none⟩ = some (.int .i64 k) /\ w3.drew.cell? ⟨w.heap.size,1,none⟩ = some (.slice a m cap):=⟨c2,q0,q1⟩
  clear hb3 ho3 hv3 ht3 HL H2 Q2 B2
  go_wp2_with fail
  go_region_held3 (fun w' => w'.cell? ⟨c,2,none⟩ = some (.map (some mb)) /\ w'.cell? ⟨w.heap.size,0,none⟩ = some (.int .i64 k) /\ w'.cell? ⟨w.heap.size,1,none⟩ = some (.slice a m cap)) (first | go_keep | exact hS4 | exact hS5)
   (first
    | (go_at_call 62; refine HOW.out.mono ?_; rintro e W4 ⟨u,rfl,hN4,hB4⟩; obtain ⟨hS4,W5,hup,hS5,FIN⟩:=HST.out W4 u hN4 hB4; obtain ⟨ua,um,uc,rfl⟩ : ∃ a m cap,u = .slice a m cap:=by { obtain ⟨a,c,e,_⟩:=hN4.rd; exact ⟨_,_,_,e⟩ }; clear hN4 hB4))
  go_wp2_with fail
  go_ret
  exact ⟨rfl,FIN.out⟩
 ·rw [HY.out.2.1] at h0
  cases h0
theorem zlc9 {X S : Nat -> Prop} {c d N : Nat} {s : CS} {D : DS} (n : Int) (k : Int) (v : Value) (ys : List Int) (w : World) (hC : Ch X w c d N s) (hD : Dk S w d D) (hN : D.L.length = N) (hr : Rd .u8 w v ys) (hn : kthere N n = false) :
  Calls Tryz.prog 27 #[cp c,.int .i64 n,blk k v] w fun e w' => e = .returned (.int .i64 2) /\ ChTo X w w' c d N s:=by
 obtain ⟨mb,av,V,h⟩:=hC
 have H : Hid (ChAt X w c d N s mb av V):=h
 obtain ⟨W1,hW1⟩:=exN (w.alloc (.cells #[.int .i64 k,v] 63))
 have B1 : Hid (Below w.heap.size w W1):=by rw [<- hW1]; exact (Below.refl _ _).alloc (zn6 _) _
 have H1 : Hid (ChAt X W1 c d N s mb av V):=h.tch (R:=fun _ => False) (Tch.of_below B1.out) (fun _ _ e => e)
 have HT:=hideP (zad9 n W1 H1.out.c0 (hD.below B1.out))
 rw [hN,hn] at HT
 obtain ⟨a,m,cap,rfl⟩ : ∃ a m cap,v = .slice a m cap:=by obtain ⟨a,c,e,_⟩:=hr; exact ⟨_,_,_,e⟩
 clear h hn hr hD hN
 unfold blk
 go_enter Tryz.func27,Tryz.ntmps27
 go_wp2_with fail
 refine HT.out.mono ?_
 rintro e w' ⟨rfl,rfl⟩
 go_wp2_with fail
 go_ret
 exact ⟨rfl,Ch.to_below ⟨_,_,_,H.out⟩ B1.out⟩
theorem zqz9 {X S : Nat -> Prop} {c d N : Nat} {s : CS} {D : DS} (n : Int) (k : Int) (v : Value) (ys : List Int) (w : World) (hC : Ch X w c d N s) (hD : Dk S w d D) (hN : D.L.length = N) (hr : Rd .u8 w v ys) (hb : By ys) (hn : kthere N n = true) (hm : mayK n k ys.length = false) :
  Calls Tryz.prog 27 #[cp c,.int .i64 n,blk k v] w fun e w' => e = .returned (.int .i64 1) /\ ChTo X w w' c d N s:=by
 obtain ⟨mb,av,V,h⟩:=hC
 have H : Hid (ChAt X w c d N s mb av V):=h
 obtain ⟨W1,hW1⟩:=exN (w.alloc (.cells #[.int .i64 k,v] 63))
 have B1 : Hid (Below w.heap.size w W1):=by rw [<- hW1]; exact (Below.refl _ _).alloc (zn6 _) _
 have Q1 : Hid (Bkv W1 w.heap.size k v):=by rw [<- hW1]; exact zr9 w _ _
 have H1 : Hid (ChAt X W1 c d N s mb av V):=h.tch (R:=fun _ => False) (Tch.of_below B1.out) (fun _ _ e => e)
 have HT:=hideP (zad9 n W1 H1.out.c0 (hD.below B1.out))
 rw [hN,hn] at HT
 have HP:=hideP (zoy9 n k v ys W1 (hr.below B1.out) hb)
 have HM : Hid (mayK n k ys.length = false):=hm
 have q0:=Q1.out.c0
 have q1:=Q1.out.c1
 obtain ⟨a,m,cap,rfl⟩ : ∃ a m cap,v = .slice a m cap:=by obtain ⟨a,c,e,_⟩:=hr; exact ⟨_,_,_,e⟩
 clear h hn hr hD hN hm hb
 unfold blk at HP ⊢
 go_enter Tryz.func27,Tryz.ntmps27
 go_wp2_with fail
 refine HT.out.mono ?_
 rintro e w' ⟨rfl,rfl⟩
 clear HT
 go_wp2_with fail
 refine HP.out.mono ?_
 rintro e w2 ⟨u,ec,rfl,hb2,hn2,hor⟩
 rcases hor with ⟨h0,_⟩ | ⟨_,rfl,rfl⟩
 ·rw [HM.out] at h0
  cases h0
 ·have B2 : Hid (Below w.heap.size w w2):=B1.out.trans (hb2.mono B1.out.size)
  clear hb2 hn2 HP q0 q1 hW1
  go_wp2_with fail
  go_ret
  exact ⟨rfl,Ch.to_below ⟨_,_,_,H.out⟩ B2.out⟩
theorem zqy9 {X S : Nat -> Prop} {c d N : Nat} {s : CS} {D : DS} (n : Int) (k : Int) (v : Value) (ys : List Int) (w : World) (hC : Ch X w c d N s) (hD : Dk S w d D) (hN : D.L.length = N) (hr : Rd .u8 w v ys) (hb : By ys) (hv : ∀ j,v.ownBlock = some j -> ys ≠ [] -> ¬ X j) :
  Calls Tryz.prog 27 #[cp c,.int .i64 n,blk k v] w fun e w' => e = .returned (.int .i64 (s.putE N n k ys)) /\ ChTo X w w' c d N (s.putS N n k ys):=by
 unfold CS.putS CS.putE
 cases h1 : kthere N n with
 | false =>
  simp only [Bool.false_eq_true,if_false]
  rw [if_neg (by decide)]
  exact zlc9 n k v ys w hC hD hN hr h1
 | true =>
  cases h2 : mayK n k ys.length with
  | false =>
   simp only [Bool.false_eq_true,if_false,if_true]
   rw [if_neg (by decide)]
   exact zqz9 n k v ys w hC hD hN hr hb h1 h2
  | true =>
   simp only [if_true]
   obtain ⟨i,rfl⟩ : ∃ i : Nat,n = (i : Int):=⟨n.toNat,by have:=(zo9.1 h1).1; omega⟩
   exact ztj9 i k v ys w hC hD hN hr hb hv (by have:=zo9.1 h1; omega) h2
def Hkv (w : World) (b : Nat) (k : Int) (v : Value) (y : Bool) : Prop:=w.heap[b]? = some (.cells #[.int .i64 k,v,.bool y] 127 (0,0))
section
variable {w w' : World} {b : Nat} {k : Int} {v : Value} {y : Bool}
theorem Hkv.c0 (h : Hkv w b k v y) : w.cell? ⟨b,0,none⟩ = some (.int .i64 k):=by rw [cell_of_row w b 0 _ _ (0,0) h]; rfl
theorem Hkv.c1 (h : Hkv w b k v y) : w.cell? ⟨b,1,none⟩ = some v:=by rw [cell_of_row w b 1 _ _ (0,0) h]; rfl
theorem Hkv.c2 (h : Hkv w b k v y) : w.cell? ⟨b,2,none⟩ = some (.bool y):=by rw [cell_of_row w b 2 _ _ (0,0) h]; rfl
theorem Hkv.fz (h : Hkv w b k v y) (i : Nat) : w.frozen? ⟨b,i,none⟩ = false:=frozen_of_row w b i _ _ h
theorem Hkv.lt (h : Hkv w b k v y) : b < w.heap.size:=(Array.getElem?_eq_some_iff.1 h).1
theorem Hkv.tch {S : Nat -> Prop} (h : Hkv w b k v y) (ht : Tch S w w') (hb : ¬ S b) : Hkv w' b k v y:=by unfold Hkv; rw [ht.block b h.lt hb]; exact h
theorem Hkv.below (h : Hkv w b k v y) (hb : Below w.heap.size w w') : Hkv w' b k v y:=h.tch (S:=fun _ => False) (Tch.of_below hb) (fun e => e)
theorem zhe9 (w : World) (k : Int) (v : Value) (y : Bool) : Hkv (w.alloc (.cells #[.int .i64 k,v,.bool y] 127)) w.heap.size k v y:=heap_alloc_new w _
end
theorem zkb9 {X S : Nat -> Prop} {c d N : Nat} {s : CS} {D : DS} (n : Int) (w : World) (hC : Ch X w c d N s) (hD : Dk S w d D) (hN : D.L.length = N) (hn : kthere N n = false) :
  Calls Tryz.prog 47 #[cp c,.int .i64 n] w fun e w' => e = .returned (.tuple #[blk 0 (.slice none 0 0),.int .i64 2]) /\ ChTo X w w' c d N s:=by
 obtain ⟨mb,av,V,h⟩:=hC
 have H : Hid (ChAt X w c d N s mb av V):=h
 obtain ⟨W1,hW1⟩:=exN (w.alloc (.cells #[.int .i64 0,.slice none 0 0] 63))
 have B1 : Hid (Below w.heap.size w W1):=by rw [<- hW1]; exact (Below.refl _ _).alloc (zn6 _) _
 have Q1 : Hid (Bkv W1 w.heap.size 0 (.slice none 0 0)):=by rw [<- hW1]; exact zr9 w _ _
 have H1 : Hid (ChAt X W1 c d N s mb av V):=h.tch (R:=fun _ => False) (Tch.of_below B1.out) (fun _ _ e => e)
 have HT:=hideP (zad9 n W1 H1.out.c0 (hD.below B1.out))
 rw [hN,hn] at HT
 have q0:=Q1.out.c0
 have q1:=Q1.out.c1
 have f0:=Q1.out.fz 0
 have f1:=Q1.out.fz 1
 obtain ⟨W2,hW2⟩:=exN ((W1.setCell ⟨w.heap.size,0,none⟩ (.int .i64 0)).setCell ⟨w.heap.size,1,none⟩ (.slice none 0 0))
 have Q2 : Hid (Bkv W2 w.heap.size 0 (.slice none 0 0)):=by rw [<- hW2]; exact Q1.out.put 0 _
 have T2 : Hid (Tch (fun j => j = w.heap.size) W1 W2):=by rw [<- hW2]; exact (zy9 W1 _ 0 _).trans (zy9 _ _ 1 _) (fun _ _ e => e)
 have B2 : Hid (Below w.heap.size w W2):=B1.out.trans (T2.out.below B1.out.size (fun j e => by omega))
 have HLD:=hideP Q2.out.load
 clear h hn hD hN
 go_enter Tryz.func47,Tryz.ntmps47
 go_wp2_with fail
 refine HT.out.mono ?_
 rintro e w' ⟨rfl,rfl⟩
 clear HT hW1
 go_wp2_with fail
 refine bodyPost_ret (v:=.tuple #[blk 0 (.slice none 0 0),.int .i64 2]) (zj9 (p:=4) (ty:=63) rfl _ _ _ w.heap.size _ _ rfl HLD.out rfl) rfl ?_
 exact ⟨rfl,Ch.to_below ⟨_,_,_,H.out⟩ B2.out⟩
theorem zej9 : (Tryz.prog.info? 127).map (·.size) = some 3:=by kernel_rfl
def ChToU (X : Nat -> Prop) (w w' : World) (c d N : Nat) (s : CS) (u : Value) : Prop:=∃ X',Ch X' w' c d N s /\ Tch X w w' /\ (∀ k,X' k -> X k ∨ w.heap.size <= k) /\ ∀ j,u.ownBlock = some j -> ¬ X' j
theorem Ch.toU {X : Nat -> Prop} {w w' : World} {c d N : Nat} {s : CS} {u : Value} (h : Ch X w c d N s) (hb : Below w.heap.size w w') (hu : ∀ j,u.ownBlock = some j -> w.heap.size <= j) : ChToU X w w' c d N s u:=
 ⟨X,h.below hb,Tch.of_below hb,fun _ e => .inl e,fun j hj e => by have:=hu j hj; have:=h.lt j e; omega⟩
theorem ChTo.nilU {X : Nat -> Prop} {w w' : World} {c d N : Nat} {s : CS} (h : ChTo X w w' c d N s) : ChToU X w w' c d N s (.slice none 0 0):=by
 obtain ⟨X',h1,h2,h3⟩:=h
 exact ⟨X',h1,h2,h3,fun j hj => by cases hj⟩
def GotK (X : Nat -> Prop) (w : World) (c d N : Nat) (s' : CS) (k : Int) (ys : List Int) (e : Ending) (w' : World) : Prop:=
 ∃ u,e = .returned (.tuple #[blk k u,.int .i64 0]) /\ Nw w.heap.size w' u ys /\ ChToU X w w' c d N s' u
theorem zka9 {X S : Nat -> Prop} {c d N : Nat} {s : CS} {D : DS} (n : Nat) (w : World) (hC : Ch X w c d N s) (hD : Dk S w d D) (hN : D.L.length = N) (hn : n ∈ s.d) :
  Calls Tryz.prog 47 #[cp c,.int .i64 (n : Int)] w fun e w' => GotK X w c d N s (s.B n).1 (s.B n).2 e w':=by
 obtain ⟨mb,av,V,h⟩:=hC
 have H : Hid (ChAt X w c d N s mb av V):=h
 obtain ⟨W1,hW1⟩:=exN (w.alloc (.cells #[.int .i64 0,.slice none 0 0] 63))
 have B1 : Hid (Below w.heap.size w W1):=by rw [<- hW1]; exact (Below.refl _ _).alloc (zn6 _) _
 have Q1 : Hid (Bkv W1 w.heap.size 0 (.slice none 0 0)):=by rw [<- hW1]; exact zr9 w _ _
 have H1 : Hid (ChAt X W1 c d N s mb av V):=h.tch (R:=fun _ => False) (Tch.of_below B1.out) (fun _ _ e => e)
 have HT:=hideP (zad9 (n : Int) W1 H1.out.c0 (hD.below B1.out))
 have hnn:=h.ok.dl n hn
 have et : kthere D.L.length (n : Int) = true:=zo9.2 (by omega)
 rw [et] at HT
 have hn2:=h.n2
 have LK:=H1.out.map.lookOk hnn.2 (by omega)
 have R1 : Hid (Rd .u8 W1 (V n) (s.B n).2):=H1.out.bod n (.inl hn)
 obtain ⟨k,hk⟩:=exN ((s.B n).1)
 obtain ⟨ys,hys⟩:=exN ((s.B n).2)
 obtain ⟨v,hv⟩:=exN (V n)
 have eg : kg s V n = some (hent k v true):=by unfold kg; rw [if_pos hn,hk,hv]
 have HML : Hid (ys.length <= 140737488355328):=by
  have:=(h.ok.may n (.inl hn)).1
  obtain ⟨_,_,_,_,m5⟩:=zv9.1 this
  show _ <= _
  rw [<- hys]; omega
 rw [hys,hv] at R1
 unfold gh at LK
 rw [eg] at LK
 simp only [Option.getD_some,Option.isSome_some] at LK
 unfold hent at LK
 rw [hk,hys]
 obtain ⟨a,m,cap,rfl⟩ : ∃ a m cap,v = .slice a m cap:=by obtain ⟨a,c,e,_⟩:=R1.out; exact ⟨_,_,_,e⟩
 obtain ⟨W2,hW2⟩:=exN (W1.alloc (.cells #[.int .i64 k,.slice a m cap,.bool true] 127))
 have b12 : Below W1.heap.size W1 W2:=by rw [<- hW2]; exact (Below.refl _ _).alloc (zn6 _) _
 have s1 : W1.heap.size = w.heap.size + 1:=by rw [<- hW1]; simp
 have B2 : Hid (Below w.heap.size w W2):=B1.out.trans (b12.mono (by omega))
 have Q2 : Hid (Bkv W2 w.heap.size 0 (.slice none 0 0)):=Q1.out.below b12
 have K2 : Hid (Hkv W2 (w.heap.size + 1) k (.slice a m cap) true):=by rw [<- hW2,<- s1]; exact zhe9 W1 _ _ _
 have R2 : Hid (Rd .u8 W2 (.slice a m cap) ys):=R1.out.below b12
 have HOW:=hideP (zhk9 k (.slice a m cap) ys W2 R2.out HML.out)
 have k0:=K2.out.c0
 have k1:=K2.out.c1
 have k2:=K2.out.c2
 have c2:=H1.out.c2
 have HW2 : Hid (W1.alloc (.cells #[.int .i64 k,.slice a m cap,.bool true] 127) = W2):=hW2
 have HS2 : Hid (W2.heap.size = w.heap.size + 2):=by show _ = _; rw [<- hW2]; simp; omega
 clear h hn hD hN et hnn hn2 eg hk hys hv b12 hW2 R1 H1
 unfold blk at HOW
 go_enter Tryz.func47,Tryz.ntmps47
 go_wp2_with fail
 refine HT.out.mono ?_
 rintro e w' ⟨rfl,rfl⟩
 clear HT hW1
 go_wp2_with (with_reducible (show wpList _ _ _ (Oper.mk _ (Op.store _ _ _) _ _ _ _ :: _) _ _); refine zc9 _ rfl 127 (.tmp 6) (.tmp 22) rfl #[.int .i64 0,.slice none 0 0,.bool false] #[.int .i64 k,.slice a m cap,.bool true] rfl rfl zej9 rfl rfl ?_; rw [HW2.out])
 rw [HW2.out]
 refine HOW.out.mono ?_
 rintro e w3 ⟨u,rfl,hN3,hB3⟩
 have B3 : Hid (Below w.heap.size w w3):=B2.out.trans (hB3.mono B2.out.size)
 have Q3 : Hid (Bkv w3 w.heap.size 0 (.slice none 0 0)):=Q2.out.below hB3
 have N3 : Hid (Nw W2.heap.size w3 u ys):=hN3
 obtain ⟨ua,um,uc,rfl⟩ : ∃ a m cap,u = .slice a m cap:=by obtain ⟨a,c,e,_⟩:=hN3.rd; exact ⟨_,_,_,e⟩
 have q0:=Q3.out.c0
 have q1:=Q3.out.c1
 have f0:=Q3.out.fz 0
 have f1:=Q3.out.fz 1
 obtain ⟨W4,hW4⟩:=exN ((w3.setCell ⟨w.heap.size,0,none⟩ (.int .i64 k)).setCell ⟨w.heap.size,1,none⟩ (.slice ua um uc))
 have Q4 : Hid (Bkv W4 w.heap.size k (.slice ua um uc)):=by rw [<- hW4]; exact Q3.out.put k _
 have T4 : Hid (Tch (fun j => j = w.heap.size) w3 W4):=by rw [<- hW4]; exact (zy9 w3 _ 0 _).trans (zy9 _ _ 1 _) (fun _ _ e => e)
 have N4 : Hid (Nw w.heap.size W4 (.slice ua um uc) ys):=by
  have h1 : Nw W2.heap.size W4 (.slice ua um uc) ys:=N3.out.tch T4.out (fun j hj e => by have h2:=N3.out.new j hj; have:=HS2.out; omega)
  exact ⟨h1.rd,h1.fz,fun j hj => by have:=h1.new j hj; have:=HS2.out; omega⟩
 have HLD:=hideP Q4.out.load
 have B4 : Hid (Below w.heap.size w W4):=B3.out.trans (T4.out.below B3.out.size (fun j e => by omega))
 clear hN3 hB3 HOW N3 Q3 T4 k0 k1 k2 HW2 c2 LK s1
 go_wp2_with fail
 refine bodyPost_ret (v:=.tuple #[blk k (.slice ua um uc),.int .i64 0]) (zj9 (p:=4) (ty:=63) rfl _ _ _ w.heap.size _ _ rfl HLD.out rfl) rfl ?_
 exact ⟨_,rfl,N4.out,Ch.toU ⟨_,_,_,H.out⟩ B4.out N4.out.new⟩
theorem zjz9 {X S : Nat -> Prop} {c d N : Nat} {s : CS} {D : DS} (n : Nat) (w : World) (hC : Ch X w c d N s) (hD : Dk S w d D) (hN : D.L.length = N) (hn : n ∈ s.c) :
  Calls Tryz.prog 47 #[cp c,.int .i64 (n : Int)] w fun e w' => GotK X w c d N (s.keep n (s.B n)) (s.B n).1 (s.B n).2 e w':=by
 obtain ⟨mb,av,V,h⟩:=hC
 have H : Hid (ChAt X w c d N s mb av V):=h
 obtain ⟨W1,hW1⟩:=exN (w.alloc (.cells #[.int .i64 0,.slice none 0 0] 63))
 have B1 : Hid (Below w.heap.size w W1):=by rw [<- hW1]; exact (Below.refl _ _).alloc (zn6 _) _
 have Q1 : Hid (Bkv W1 w.heap.size 0 (.slice none 0 0)):=by rw [<- hW1]; exact zr9 w _ _
 have H1 : Hid (ChAt X W1 c d N s mb av V):=h.tch (R:=fun _ => False) (Tch.of_below B1.out) (fun _ _ e => e)
 have HT:=hideP (zad9 (n : Int) W1 H1.out.c0 (hD.below B1.out))
 have hnn:=h.ok.cl n hn
 have et : kthere D.L.length (n : Int) = true:=zo9.2 (by omega)
 rw [et] at HT
 have hn2:=h.n2
 have LK:=H1.out.map.lookOk hnn.2 (by omega)
 have R1 : Hid (Rd .u8 W1 (V n) (s.B n).2):=H1.out.bod n (.inr hn)
 obtain ⟨k,hk⟩:=exN ((s.B n).1)
 obtain ⟨ys,hys⟩:=exN ((s.B n).2)
 obtain ⟨v,hv⟩:=exN (V n)
 have eg : kg s V n = some (hent k v false):=by unfold kg; rw [if_neg (fun e => h.ok.ap n e hn),if_pos hn,hk,hv]
 have HML : Hid (ys.length <= 140737488355328):=by
  have:=(h.ok.may n (.inr hn)).1
  obtain ⟨_,_,_,_,m5⟩:=zv9.1 this
  show _ <= _
  rw [<- hys]; omega
 rw [hys,hv] at R1
 unfold gh at LK
 rw [eg] at LK
 simp only [Option.getD_some,Option.isSome_some] at LK
 unfold hent at LK
 rw [hk,hys,show s.B n = (k,ys) by rw [<- hk,<- hys]]
 obtain ⟨a,m,cap,rfl⟩ : ∃ a m cap,v = .slice a m cap:=by obtain ⟨a,c,e,_⟩:=R1.out; exact ⟨_,_,_,e⟩
 obtain ⟨W2,hW2⟩:=exN (W1.alloc (.cells #[.int .i64 k,.slice a m cap,.bool false] 127))
 have b12 : Below W1.heap.size W1 W2:=by rw [<- hW2]; exact (Below.refl _ _).alloc (zn6 _) _
 have s1 : W1.heap.size = w.heap.size + 1:=by rw [<- hW1]; simp
 have B2 : Hid (Below w.heap.size w W2):=B1.out.trans (b12.mono (by omega))
 have Q2 : Hid (Bkv W2 w.heap.size 0 (.slice none 0 0)):=Q1.out.below b12
 have K2 : Hid (Hkv W2 (w.heap.size + 1) k (.slice a m cap) false):=by rw [<- hW2,<- s1]; exact zhe9 W1 _ _ _
 have R2 : Hid (Rd .u8 W2 (.slice a m cap) ys):=R1.out.below b12
 have H2 : Hid (ChAt X W2 c d N s mb av V):=H1.out.tch (R:=fun _ => False) (Tch.of_below b12) (fun _ _ e => e)
 have HBN : Hid (s.B n = (k,ys)):=by show _ = _; rw [<- hk,<- hys]
 have HKP:=hideP (zkm9 n k (.slice a m cap) ys W2 H2.out hnn (by have:=(h.ok.may n (.inr hn)).1; rw [hk,hys] at this; exact this) (by have:=(h.ok.may n (.inr hn)).2; rw [hys] at this; exact this) R2.out (fun j hj h0 => by
  have:=h.bap n (.inr hn) j (by rw [hv]; exact hj) (by rw [hys]; exact h0)
  exact this))
 have k0:=K2.out.c0
 have k1:=K2.out.c1
 have k2:=K2.out.c2
 have c2:=H1.out.c2
 have HW2 : Hid (W1.alloc (.cells #[.int .i64 k,.slice a m cap,.bool false] 127) = W2):=hW2
 have HS2 : Hid (W2.heap.size = w.heap.size + 2):=by show _ = _; rw [<- hW2]; simp; omega
 clear h hn hD hN et hnn hn2 eg hk hys hv b12 hW2 R1 H1
 unfold blk at HKP
 go_enter Tryz.func47,Tryz.ntmps47
 go_wp2_with fail
 refine HT.out.mono ?_
 rintro e w' ⟨rfl,rfl⟩
 clear HT hW1
 go_wp2_with (with_reducible (show wpList _ _ _ (Oper.mk _ (Op.store _ _ _) _ _ _ _ :: _) _ _); refine zc9 _ rfl 127 (.tmp 6) (.tmp 22) rfl #[.int .i64 0,.slice none 0 0,.bool false] #[.int .i64 k,.slice a m cap,.bool false] rfl rfl zej9 rfl rfl ?_; rw [HW2.out])
 rw [HW2.out]
 refine HKP.out.mono ?_
 rintro e w3 ⟨rfl,h3,r3⟩
 have QQ : Hid (Bkv w3 w.heap.size 0 (.slice none 0 0)):=by
  obtain ⟨_,_,t,_⟩:=h3
  exact Q2.out.tch t (fun e => by have:=H.out.xlt _ e; omega)
 have K3 : Hid (Hkv w3 (w.heap.size + 1) k (.slice a m cap) false):=by
  obtain ⟨_,_,t,_⟩:=h3
  exact K2.out.tch t (fun e => by have:=H.out.xlt _ e; omega)
 have HKE : Hid (∃ XK,Ch XK w3 c d N (s.keep n (k,ys)) /\ Tch X w w3 /\ (∀ j,XK j -> X j ∨ w.heap.size <= j) /\ ¬ XK w.heap.size):=by
  obtain ⟨XK,hK,t,hx⟩:=h3
  have hs:=HS2.out
  exact ⟨XK,hK,(Tch.of_below B2.out).trans t (fun _ _ e => e),fun j hj => (hx j hj).imp id (fun e => by omega),fun e => by
   rcases hx _ e with e | e
   ·have:=H.out.xlt _ e; omega
   ·omega⟩
 have HOW:=hideP (zhk9 k (.slice a m cap) ys w3 r3 HML.out)
 unfold blk at HOW
 have x0:=K3.out.c0
 have x1:=K3.out.c1
 clear h3 r3 HKP k0 k1 k2 HW2 c2 LK s1 Q2 K2 R2 H2
 go_wp2_with fail
 refine HOW.out.mono ?_
 rintro e w4 ⟨u,rfl,hN4,hB4⟩
 have Q4 : Hid (Bkv w4 w.heap.size 0 (.slice none 0 0)):=QQ.out.below hB4
 have N4 : Hid (Nw w3.heap.size w4 u ys):=hN4
 have HB4 : Hid (Below w3.heap.size w3 w4):=hB4
 obtain ⟨ua,um,uc,rfl⟩ : ∃ a m cap,u = .slice a m cap:=by obtain ⟨a,c,e,_⟩:=hN4.rd; exact ⟨_,_,_,e⟩
 have z0:=Q4.out.c0
 have z1:=Q4.out.c1
 have g0:=Q4.out.fz 0
 have g1:=Q4.out.fz 1
 obtain ⟨WF,hWF⟩:=exN ((w4.setCell ⟨w.heap.size,0,none⟩ (.int .i64 k)).setCell ⟨w.heap.size,1,none⟩ (.slice ua um uc))
 have QF : Hid (Bkv WF w.heap.size k (.slice ua um uc)):=by rw [<- hWF]; exact Q4.out.put k _
 have TF : Hid (Tch (fun j => j = w.heap.size) w4 WF):=by rw [<- hWF]; exact (zy9 w4 _ 0 _).trans (zy9 _ _ 1 _) (fun _ _ e => e)
 have HQL : Hid (w.heap.size < w3.heap.size):=QQ.out.lt
 have NF : Hid (Nw w.heap.size WF (.slice ua um uc) ys):=by
  have h1 : Nw w3.heap.size WF (.slice ua um uc) ys:=N4.out.tch TF.out (fun j hj e => by have h2:=N4.out.new j hj; have:=HQL.out; omega)
  exact ⟨h1.rd,h1.fz,fun j hj => by have:=h1.new j hj; have:=HQL.out; omega⟩
 have HLD:=hideP QF.out.load
 have HNU : Hid (∀ j,(Value.slice ua um uc).ownBlock = some j -> w3.heap.size <= j):=N4.out.new
 have HFIN : Hid (ChToU X w WF c d N (s.keep n (k,ys)) (.slice ua um uc)):=by
  obtain ⟨XK,hCK,tK,hxK⟩:=HKE.out
  have t1 : Tch (fun j => j = w.heap.size) w3 WF:=(Tch.of_below HB4.out).trans TF.out (fun _ _ e => e)
  refine ⟨XK,hCK.tch t1 (fun j hj e => hxK.2 (by rw [<- e]; exact hj)),tK.trans t1 (fun j hj e => by omega),hxK.1,fun j hj e => by have:=hCK.lt j e; have:=HNU.out j hj; omega⟩
 clear hN4 hB4 HOW N4 Q4 TF
 go_wp2_with fail
 refine bodyPost_ret (v:=.tuple #[blk k (.slice ua um uc),.int .i64 0]) (zj9 (p:=4) (ty:=63) rfl _ _ _ w.heap.size _ _ rfl HLD.out rfl) rfl ?_
 exact ⟨_,rfl,NF.out,HFIN.out⟩
theorem zpy9 {n : Int} {xs : List Int} (hb : By xs) (h : getE n xs = 0) : mayK n (getB n xs).1 (getB n xs).2.length = true /\ By (getB n xs).2:=by
 have e : getB n xs = (xs.getD 0 0,bdy xs):=by unfold getB; rw [if_pos h]
 rw [e]
 refine ⟨?_,bdy_by hb⟩
 unfold getE at h
 split at h
 ·cases h
 ·split at h
  ·cases h
  ·split at h
   ·rename_i h1; exact h1.1
   ·cases h
theorem zqa9 {X S : Nat -> Prop} {c d N : Nat} {s : CS} {D : DS} (n : Nat) (w : World) (hC : Ch X w c d N s) (hD : Dk S w d D) (hN : D.L.length = N) (hnn : 50 <= n /\ n < N) (hnd : n ∉ s.d) (hnc : n ∉ s.c) (hE : getE (n : Int) (D.has n) ≠ 0) :
  Calls Tryz.prog 47 #[cp c,.int .i64 (n : Int)] w fun e w' => e = .returned (.tuple #[blk 0 (.slice none 0 0),.int .i64 (getE (n : Int) (D.has n))]) /\ ChTo X w w' c d N s:=by
 obtain ⟨mb,av,V,h⟩:=hC
 have H : Hid (ChAt X w c d N s mb av V):=h
 obtain ⟨W1,hW1⟩:=exN (w.alloc (.cells #[.int .i64 0,.slice none 0 0] 63))
 have B1 : Hid (Below w.heap.size w W1):=by rw [<- hW1]; exact (Below.refl _ _).alloc (zn6 _) _
 have Q1 : Hid (Bkv W1 w.heap.size 0 (.slice none 0 0)):=by rw [<- hW1]; exact zr9 w _ _
 have H1 : Hid (ChAt X W1 c d N s mb av V):=h.tch (R:=fun _ => False) (Tch.of_below B1.out) (fun _ _ e => e)
 have HT:=hideP (zad9 (n : Int) W1 H1.out.c0 (hD.below B1.out))
 have et : kthere D.L.length (n : Int) = true:=zo9.2 (by omega)
 rw [et] at HT
 have hn2:=h.n2
 have LK:=H1.out.map.lookOk hnn.2 (by omega)
 have eg : kg s V n = none:=by unfold kg; rw [if_neg hnd,if_neg hnc]
 unfold gh at LK
 rw [eg] at LK
 simp only [Option.getD_none,Option.isSome_none] at LK
 unfold hent0 hent at LK
 obtain ⟨W2,hW2⟩:=exN (W1.alloc (.cells #[.int .i64 0,.slice none 0 0,.bool false] 127))
 have b12 : Below W1.heap.size W1 W2:=by rw [<- hW2]; exact (Below.refl _ _).alloc (zn6 _) _
 have s1 : W1.heap.size = w.heap.size + 1:=by rw [<- hW1]; simp
 have B2 : Hid (Below w.heap.size w W2):=B1.out.trans (b12.mono (by omega))
 have Q2 : Hid (Bkv W2 w.heap.size 0 (.slice none 0 0)):=Q1.out.below b12
 have K2 : Hid (Hkv W2 (w.heap.size + 1) 0 (.slice none 0 0) false):=by rw [<- hW2,<- s1]; exact zhe9 W1 _ _ _
 have H2 : Hid (ChAt X W2 c d N s mb av V):=H1.out.tch (R:=fun _ => False) (Tch.of_below b12) (fun _ _ e => e)
 have HRE:=hideP (zlg9 n W2 H2.out.c0 (hD.below B2.out) (by omega))
 have c2:=H1.out.c2
 have HW2 : Hid (W1.alloc (.cells #[.int .i64 0,.slice none 0 0,.bool false] 127) = W2):=hW2
 have HS2 : Hid (W2.heap.size = w.heap.size + 2):=by show _ = _; rw [<- hW2]; simp; omega
 obtain ⟨xs,hxs⟩:=exN (D.has n)
 have HX : Hid (By xs):=by rw [<- hxs]; exact (hD.has_ok (by omega)).2
 rw [hxs] at hE HRE ⊢
 obtain ⟨ec,hec⟩:=exN (getE (n : Int) xs)
 rw [hec] at hE ⊢
 have HEC : Hid (getE (n : Int) xs = ec):=hec
 have hE1 : (ec == 0) = false:=by rw [beq_eq_false_iff_ne]; exact hE
 have hE2 : (ec != 0) = true:=by rw [bne,hE1]; rfl
 clear h hD hN et hnn hn2 eg b12 hW2 H1 hnd hnc hxs hec
 go_enter Tryz.func47,Tryz.ntmps47
 go_wp2_with fail
 refine HT.out.mono ?_
 rintro e w' ⟨rfl,rfl⟩
 clear HT hW1
 go_wp2_with (with_reducible (show wpList _ _ _ (Oper.mk _ (Op.store _ _ _) _ _ _ _ :: _) _ _); refine zc9 _ rfl 127 (.tmp 6) (.tmp 22) rfl #[.int .i64 0,.slice none 0 0,.bool false] #[.int .i64 0,.slice none 0 0,.bool false] rfl rfl zej9 rfl rfl ?_; rw [HW2.out])
 rw [HW2.out]
 refine HRE.out.mono ?_
 rintro e w3 ⟨v,rfl,hr3,hb3,hn3⟩
 rw [HEC.out]
 have B3 : Hid (Below w.heap.size w w3):=B2.out.trans (hb3.mono B2.out.size)
 have Q3 : Hid (Bkv w3 w.heap.size 0 (.slice none 0 0)):=Q2.out.below hb3
 obtain ⟨k,hk⟩:=exN ((getB (n : Int) xs).1)
 rw [hk]
 obtain ⟨a,m,cap,rfl⟩ : ∃ a m cap,v = .slice a m cap:=by obtain ⟨a,c,e,_⟩:=hr3; exact ⟨_,_,_,e⟩
 obtain ⟨W4,hW4⟩:=exN (w3.alloc (.cells #[.int .i64 k,.slice a m cap] 63))
 have b34 : Below w3.heap.size w3 W4:=by rw [<- hW4]; exact (Below.refl _ _).alloc (zn6 _) _
 have B4 : Hid (Below w.heap.size w W4):=B3.out.trans (b34.mono B3.out.size)
 have Q4 : Hid (Bkv W4 w.heap.size 0 (.slice none 0 0)):=Q3.out.below b34
 have z0:=Q4.out.c0
 have z1:=Q4.out.c1
 have g0:=Q4.out.fz 0
 have g1:=Q4.out.fz 1
 obtain ⟨WF,hWF⟩:=exN ((W4.setCell ⟨w.heap.size,0,none⟩ (.int .i64 0)).setCell ⟨w.heap.size,1,none⟩ (.slice none 0 0))
 have QF : Hid (Bkv WF w.heap.size 0 (.slice none 0 0)):=by rw [<- hWF]; exact Q4.out.put 0 _
 have TF : Hid (Tch (fun j => j = w.heap.size) W4 WF):=by rw [<- hWF]; exact (zy9 W4 _ 0 _).trans (zy9 _ _ 1 _) (fun _ _ e => e)
 have BF : Hid (Below w.heap.size w WF):=B4.out.trans (TF.out.below B4.out.size (fun j e => by omega))
 have HLD:=hideP QF.out.load
 clear hr3 hb3 hn3 hk b34 HRE Q2 Q3 B3 B2 K2 H2 LK c2 HW2 s1
 unfold blk
 go_wp2_with fail
 refine bodyPost_ret (v:=.tuple #[blk 0 (.slice none 0 0),.int .i64 ec]) (zj9 (p:=4) (ty:=63) rfl _ _ _ w.heap.size _ _ rfl HLD.out rfl) rfl ?_
 exact ⟨rfl,Ch.to_below ⟨_,_,_,H.out⟩ BF.out⟩
theorem zqb9 {X S : Nat -> Prop} {c d N : Nat} {s : CS} {D : DS} (n : Nat) (w : World) (hC : Ch X w c d N s) (hD : Dk S w d D) (hN : D.L.length = N) (hnn : 50 <= n /\ n < N) (hnd : n ∉ s.d) (hnc : n ∉ s.c) (hE : getE (n : Int) (D.has n) = 0) :
  Calls Tryz.prog 47 #[cp c,.int .i64 (n : Int)] w fun e w' => GotK X w c d N (s.keep n (getB (n : Int) (D.has n))) (getB (n : Int) (D.has n)).1 (getB (n : Int) (D.has n)).2 e w':=by
 obtain ⟨mb,av,V,h⟩:=hC
 have H : Hid (ChAt X w c d N s mb av V):=h
 obtain ⟨W1,hW1⟩:=exN (w.alloc (.cells #[.int .i64 0,.slice none 0 0] 63))
 have B1 : Hid (Below w.heap.size w W1):=by rw [<- hW1]; exact (Below.refl _ _).alloc (zn6 _) _
 have Q1 : Hid (Bkv W1 w.heap.size 0 (.slice none 0 0)):=by rw [<- hW1]; exact zr9 w _ _
 have H1 : Hid (ChAt X W1 c d N s mb av V):=h.tch (R:=fun _ => False) (Tch.of_below B1.out) (fun _ _ e => e)
 have HT:=hideP (zad9 (n : Int) W1 H1.out.c0 (hD.below B1.out))
 have et : kthere D.L.length (n : Int) = true:=zo9.2 (by omega)
 rw [et] at HT
 have hn2:=h.n2
 have LK:=H1.out.map.lookOk hnn.2 (by omega)
 have eg : kg s V n = none:=by unfold kg; rw [if_neg hnd,if_neg hnc]
 unfold gh at LK
 rw [eg] at LK
 simp only [Option.getD_none,Option.isSome_none] at LK
 unfold hent0 hent at LK
 obtain ⟨W2,hW2⟩:=exN (W1.alloc (.cells #[.int .i64 0,.slice none 0 0,.bool false] 127))
 have b12 : Below W1.heap.size W1 W2:=by rw [<- hW2]; exact (Below.refl _ _).alloc (zn6 _) _
 have s1 : W1.heap.size = w.heap.size + 1:=by rw [<- hW1]; simp
 have B2 : Hid (Below w.heap.size w W2):=B1.out.trans (b12.mono (by omega))
 have Q2 : Hid (Bkv W2 w.heap.size 0 (.slice none 0 0)):=Q1.out.below b12
 have K2 : Hid (Hkv W2 (w.heap.size + 1) 0 (.slice none 0 0) false):=by rw [<- hW2,<- s1]; exact zhe9 W1 _ _ _
 have H2 : Hid (ChAt X W2 c d N s mb av V):=H1.out.tch (R:=fun _ => False) (Tch.of_below b12) (fun _ _ e => e)
 have HRE:=hideP (zlg9 n W2 H2.out.c0 (hD.below B2.out) (by omega))
 have c2:=H1.out.c2
 have HW2 : Hid (W1.alloc (.cells #[.int .i64 0,.slice none 0 0,.bool false] 127) = W2):=hW2
 have HS2 : Hid (W2.heap.size = w.heap.size + 2):=by show _ = _; rw [<- hW2]; simp; omega
 obtain ⟨xs,hxs⟩:=exN (D.has n)
 have HX : Hid (By xs):=by rw [<- hxs]; exact (hD.has_ok (by omega)).2
 rw [hxs] at hE HRE ⊢
 obtain ⟨x,hx⟩:=exN (getB (n : Int) xs)
 obtain ⟨k,ys⟩:=x
 have HMY:=hideP (zpy9 (n:=(n : Int)) HX.out hE)
 rw [hx] at HMY ⊢
 have HEC : Hid (getE (n : Int) xs = 0 /\ getB (n : Int) xs = (k,ys)):=⟨hE,hx⟩
 have HNN : Hid (50 <= n /\ n < N):=hnn
 have HML : Hid (ys.length <= 140737488355328):=by
  obtain ⟨_,_,_,_,m5⟩:=zv9.1 HMY.out.1
  show _ <= _
  have : ys.length <= 240:=m5
  omega
 clear h hD hN et hnn hn2 eg b12 hW2 H1 hnd hnc hxs hE hx
 go_enter Tryz.func47,Tryz.ntmps47
 go_wp2_with fail
 refine HT.out.mono ?_
 rintro e w' ⟨rfl,rfl⟩
 clear HT hW1
 go_wp2_with (with_reducible (show wpList _ _ _ (Oper.mk _ (Op.store _ _ _) _ _ _ _ :: _) _ _); refine zc9 _ rfl 127 (.tmp 6) (.tmp 22) rfl #[.int .i64 0,.slice none 0 0,.bool false] #[.int .i64 0,.slice none 0 0,.bool false] rfl rfl zej9 rfl rfl ?_; rw [HW2.out])
 rw [HW2.out]
 refine HRE.out.mono ?_
 rintro e w3 ⟨v,rfl,hr3,hb3,hn3⟩
 rw [HEC.out.1,HEC.out.2] at *
 have hr3 : Rd .u8 w3 v ys:=hr3
 have B3 : Hid (Below w.heap.size w w3):=B2.out.trans (hb3.mono B2.out.size)
 have Q3 : Hid (Bkv w3 w.heap.size 0 (.slice none 0 0)):=Q2.out.below hb3
 have K3 : Hid (Hkv w3 (w.heap.size + 1) 0 (.slice none 0 0) false):=K2.out.below hb3
 have N3 : Hid (∀ j,v.ownBlock = some j -> w.heap.size + 2 <= j):=fun j hj => by have:=hn3 j hj; have:=HS2.out; omega
 obtain ⟨a,m,cap,rfl⟩ : ∃ a m cap,v = .slice a m cap:=by obtain ⟨a,c,e,_⟩:=hr3; exact ⟨_,_,_,e⟩
 obtain ⟨W4,hW4⟩:=exN (w3.alloc (.cells #[.int .i64 k,.slice a m cap] 63))
 have b34 : Below w3.heap.size w3 W4:=by rw [<- hW4]; exact (Below.refl _ _).alloc (zn6 _) _
 have B4 : Hid (Below w.heap.size w W4):=B3.out.trans (b34.mono B3.out.size)
 have K4 : Hid (Hkv W4 (w.heap.size + 1) 0 (.slice none 0 0) false):=K3.out.below b34
 have Q4 : Hid (Bkv W4 w.heap.size 0 (.slice none 0 0)):=Q3.out.below b34
 have G4 : Hid (Bkv W4 w3.heap.size k (.slice a m cap)):=by rw [<- hW4]; exact zr9 w3 _ _
 have R4 : Hid (Rd .u8 W4 (.slice a m cap) ys):=hr3.below b34
 have y0:=G4.out.c0
 have y1:=G4.out.c1
 have e0:=K4.out.c0
 have e1:=K4.out.c1
 have e2:=K4.out.c2
 have j0:=K4.out.fz 0
 have j1:=K4.out.fz 1
 have j2:=K4.out.fz 2
 obtain ⟨W5,hW5⟩:=exN (((W4.setCell ⟨w.heap.size + 1,0,none⟩ (.int .i64 k)).setCell ⟨w.heap.size + 1,1,none⟩ (.slice a m cap)).setCell ⟨w.heap.size + 1,2,none⟩ (.bool false))
 have K5 : Hid (Hkv W5 (w.heap.size + 1) k (.slice a m cap) false):=by
  rw [<- hW5]
  have h1:=heap_setCell_same W4 (w.heap.size + 1) 0 _ _ (.int .i64 k) K4.out
  have h2:=heap_setCell_same _ (w.heap.size + 1) 1 _ _ (.slice a m cap) h1
  exact heap_setCell_same _ (w.heap.size + 1) 2 _ _ (.bool false) h2
 have T5 : Hid (Tch (fun j => j = w.heap.size + 1) W4 W5):=by rw [<- hW5]; exact ((zy9 W4 _ 0 _).trans (zy9 _ _ 1 _) (fun _ _ e => e)).trans (zy9 _ _ 2 _) (fun _ _ e => e)
 have B5 : Hid (Below w.heap.size w W5):=B4.out.trans (T5.out.below B4.out.size (fun j e => by omega))
 have Q5 : Hid (Bkv W5 w.heap.size 0 (.slice none 0 0)):=Q4.out.tch T5.out (fun e => by omega)
 have R5 : Hid (Rd .u8 W5 (.slice a m cap) ys):=R4.out.tch T5.out (fun j hj e => by have:=N3.out j hj; omega)
 obtain ⟨X',hX'⟩ : ∃ X' : Nat -> Prop,(fun j => X j ∨ ((Value.slice a m cap).ownBlock = some j /\ ys ≠ [])) = X':=⟨_,rfl⟩
 have H5 : Hid (ChAt X' W5 c d N s mb av V):=by
  rw [<- hX']
  refine (H.out.tch (R:=fun _ => False) (Tch.of_below B5.out) (fun _ _ e => e)).wide (fun j hj => .inl hj) (fun j hj => ?_)
  rcases hj with e | ⟨e,e0⟩
  ·exact zn1 (H.out.xlt j e) B5.out.size
  ·exact R5.out.blk_lt e0 e
 have HX5 : Hid ((∀ j,X' j -> X j ∨ w.heap.size + 2 <= j) /\ ∀ j,(Value.slice a m cap).ownBlock = some j -> ys ≠ [] -> X' j /\ j ≠ c /\ j ≠ mb /\ av.ownBlock ≠ some j):=by
  rw [<- hX']
  refine ⟨fun j hj => hj.imp id (fun e => N3.out j e.1),fun j hj h0 => ⟨.inr ⟨hj,h0⟩,?_,?_,fun e => ?_⟩⟩
  ·have:=N3.out j hj; have:=H.out.lt; omega
  ·have:=N3.out j hj; have:=H.out.xlt _ H.out.xm; omega
  ·have:=N3.out j hj; have:=H.out.xlt _ (H.out.xa j e); omega
 have HKP:=hideP (zkm9 n k (.slice a m cap) ys W5 H5.out HNN.out HMY.out.1 HMY.out.2 R5.out HX5.out.2)
 have i0:=K5.out.c0
 have i1:=K5.out.c1
 have i2:=K5.out.c2
 have HZ5 : Hid (w.heap.size + 2 <= W5.heap.size):=by have:=K5.out.lt; exact this
 clear hr3 hb3 hn3 b34 HRE Q2 Q3 B3 B2 K2 K3 H2 LK c2 HW2 s1 R4 T5 B4 Q4 hX'
 unfold blk at HKP ⊢
 go_wp2_with fail
 refine HKP.out.mono ?_
 rintro e w6 ⟨rfl,h6,r6⟩
 have NX : Hid (∀ j,j < w.heap.size + 2 -> w.heap.size <= j -> ¬ X' j):=fun j h1 h2 e => by
  rcases HX5.out.1 j e with e | e
  ·have:=H.out.xlt _ e; omega
  ·omega
 have QQ : Hid (Bkv w6 w.heap.size 0 (.slice none 0 0)):=by
  obtain ⟨_,_,t,_⟩:=h6
  exact Q5.out.tch t (NX.out _ (by omega) (by omega))
 have K6 : Hid (Hkv w6 (w.heap.size + 1) k (.slice a m cap) false):=by
  obtain ⟨_,_,t,_⟩:=h6
  exact K5.out.tch t (NX.out _ (by omega) (by omega))
 have HKE : Hid (∃ XK,Ch XK w6 c d N (s.keep n (k,ys)) /\ Tch X w w6 /\ (∀ j,XK j -> X j ∨ w.heap.size <= j) /\ ¬ XK w.heap.size):=by
  obtain ⟨XK,hK,t,hx⟩:=h6
  have hs:=HZ5.out
  refine ⟨XK,hK,(Tch.of_below B5.out).trans t (fun j hj e => ?_),fun j hj => ?_,fun e => ?_⟩
  ·rcases HX5.out.1 j e with e | e
   ·exact e
   ·omega
  ·rcases hx j hj with e | e
   ·exact (HX5.out.1 j e).imp id (fun e => by omega)
   ·exact .inr (by omega)
  ·rcases hx _ e with e | e
   ·exact NX.out _ (by omega) (by omega) e
   ·omega
 have HOW:=hideP (zhk9 k (.slice a m cap) ys w6 r6 HML.out)
 unfold blk at HOW
 have x0:=K6.out.c0
 have x1:=K6.out.c1
 clear h6 r6 HKP y0 y1 e0 e1 e2 j0 j1 j2 i0 i1 i2 hW5 hW4 Q5 K5 R5 H5
 go_wp2_with fail
 refine HOW.out.mono ?_
 rintro e w7 ⟨u,rfl,hN7,hB7⟩
 have Q7 : Hid (Bkv w7 w.heap.size 0 (.slice none 0 0)):=QQ.out.below hB7
 have N7 : Hid (Nw w6.heap.size w7 u ys):=hN7
 have HB7 : Hid (Below w6.heap.size w6 w7):=hB7
 obtain ⟨ua,um,uc,rfl⟩ : ∃ a m cap,u = .slice a m cap:=by obtain ⟨a,c,e,_⟩:=hN7.rd; exact ⟨_,_,_,e⟩
 have z0:=Q7.out.c0
 have z1:=Q7.out.c1
 have g0:=Q7.out.fz 0
 have g1:=Q7.out.fz 1
 obtain ⟨WF,hWF⟩:=exN ((w7.setCell ⟨w.heap.size,0,none⟩ (.int .i64 k)).setCell ⟨w.heap.size,1,none⟩ (.slice ua um uc))
 have QF : Hid (Bkv WF w.heap.size k (.slice ua um uc)):=by rw [<- hWF]; exact Q7.out.put k _
 have TF : Hid (Tch (fun j => j = w.heap.size) w7 WF):=by rw [<- hWF]; exact (zy9 w7 _ 0 _).trans (zy9 _ _ 1 _) (fun _ _ e => e)
 have HQL : Hid (w.heap.size < w6.heap.size):=QQ.out.lt
 have NF : Hid (Nw w.heap.size WF (.slice ua um uc) ys):=by
  have h1 : Nw w6.heap.size WF (.slice ua um uc) ys:=N7.out.tch TF.out (fun j hj e => by have h2:=N7.out.new j hj; have:=HQL.out; omega)
  exact ⟨h1.rd,h1.fz,fun j hj => by have:=h1.new j hj; have:=HQL.out; omega⟩
 have HLD:=hideP QF.out.load
 have HNU : Hid (∀ j,(Value.slice ua um uc).ownBlock = some j -> w6.heap.size <= j):=N7.out.new
 have HFIN : Hid (ChToU X w WF c d N (s.keep n (k,ys)) (.slice ua um uc)):=by
  obtain ⟨XK,hCK,tK,hxK⟩:=HKE.out
  have t1 : Tch (fun j => j = w.heap.size) w6 WF:=(Tch.of_below HB7.out).trans TF.out (fun _ _ e => e)
  refine ⟨XK,hCK.tch t1 (fun j hj e => hxK.2 (by rw [<- e]; exact hj)),tK.trans t1 (fun j hj e => by omega),hxK.1,fun j hj e => by have:=hCK.lt j e; have:=HNU.out j hj; omega⟩
 clear hN7 hB7 HOW N7 Q7 TF
 go_wp2_with fail
 refine bodyPost_ret (v:=.tuple #[blk k (.slice ua um uc),.int .i64 0]) (zj9 (p:=4) (ty:=63) rfl _ _ _ w.heap.size _ _ rfl HLD.out rfl) rfl ?_
 exact ⟨_,rfl,NF.out,HFIN.out⟩
theorem zpz9 {X S : Nat -> Prop} {c d N : Nat} {s : CS} {D : DS} (n : Int) (w : World) (hC : Ch X w c d N s) (hD : Dk S w d D) (hN : D.L.length = N) :
  Calls Tryz.prog 47 #[cp c,.int .i64 n] w fun e w' => ∃ u,e = .returned (.tuple #[blk (s.getB D n).1 u,.int .i64 (s.getE D n)]) /\ Nw w.heap.size w' u (s.getB D n).2 /\ ChToU X w w' c d N (s.getS D n) u:=by
 cases h1 : kthere N n with
 | false =>
  have e1 : s.getE D n = 2:=by unfold CS.getE; rw [hN,h1]; rfl
  have e2 : s.getB D n = (0,[]):=by unfold CS.getB; rw [hN,h1]; rfl
  have e3 : s.getS D n = s:=by unfold CS.getS; rw [e1]; rfl
  rw [e1,e2,e3]
  refine (zkb9 n w hC hD hN h1).mono ?_
  rintro e w' ⟨rfl,h⟩
  exact ⟨_,rfl,Nw.nil _ _,h.nilU⟩
 | true =>
  obtain ⟨i,rfl⟩ : ∃ i : Nat,n = (i : Int):=⟨n.toNat,by have:=(zo9.1 h1).1; omega⟩
  have hi:=zo9.1 h1
  by_cases hd : i ∈ s.d
  ·have e1 : s.getE D (i : Int) = 0:=by unfold CS.getE; rw [hN,h1,if_pos rfl,if_pos (.inl hd)]
   have e2 : s.getB D (i : Int) = s.B i:=by unfold CS.getB; rw [hN,h1,if_pos rfl,if_pos (.inl hd)]; rfl
   have e3 : s.getS D (i : Int) = s:=by unfold CS.getS; rw [if_neg (fun e => e.2 hd)]
   rw [e1,e2,e3]
   exact zka9 i w hC hD hN hd
  ·by_cases hc : i ∈ s.c
   ·have e1 : s.getE D (i : Int) = 0:=by unfold CS.getE; rw [hN,h1,if_pos rfl,if_pos (.inr hc)]
    have e2 : s.getB D (i : Int) = s.B i:=by unfold CS.getB; rw [hN,h1,if_pos rfl,if_pos (.inr hc)]; rfl
    have e3 : s.getS D (i : Int) = s.keep i (s.B i):=by unfold CS.getS; rw [if_pos ⟨e1,hd⟩,e2]; rfl
    rw [e1,e2,e3]
    exact zjz9 i w hC hD hN hc
   ·have e1 : s.getE D (i : Int) = getE (i : Int) (D.has i):=by unfold CS.getE; rw [hN,h1,if_pos rfl,if_neg (fun e => e.elim hd hc)]; rfl
    have e2 : s.getB D (i : Int) = getB (i : Int) (D.has i):=by unfold CS.getB; rw [hN,h1,if_pos rfl,if_neg (fun e => e.elim hd hc)]; rfl
    by_cases he : getE (i : Int) (D.has i) = 0
    ·have e3 : s.getS D (i : Int) = s.keep i (getB (i : Int) (D.has i)):=by unfold CS.getS; rw [if_pos ⟨e1.trans he,hd⟩,e2]; rfl
     rw [e1,e2,e3,he]
     exact zqb9 i w hC hD hN (by omega) hd hc he
    ·have e3 : s.getS D (i : Int) = s:=by unfold CS.getS; rw [if_neg (fun e => he (e1.symm.trans e.1))]
     have e4 : getB (i : Int) (D.has i) = (0,[]):=by unfold getB; rw [if_neg he]
     rw [e1,e2,e3,e4]
     refine (zqa9 i w hC hD hN (by omega) hd hc he).mono ?_
     rintro e w' ⟨rfl,h⟩
     exact ⟨_,rfl,Nw.nil _ _,h.nilU⟩
end Go.Proofs.YtjhccpijpffahaaGreat
