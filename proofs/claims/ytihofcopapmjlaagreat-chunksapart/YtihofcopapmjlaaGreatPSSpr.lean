import Derived.Test.YtihofcopapmjlaaGreatPSRot
import Derived.Test.YtihofcopapmjlaaGreatPBSum
import Derived.StillTailTactics
set_option maxRecDepth 100000
set_option linter.all false
set_option maxHeartbeats 8000000
namespace Go.Proofs.YtihofcopapmjlaaGreat
open Go.Proofs.Tryz
open Go.RowKit Pl
def AIH(a b c d:Nat)(ha:a<256)(f:b<256)(hc:c<256)(q:d<256):
 Go.bits .or .u32 ((a:Int)*16777216) ((b:Int)*65536)=((a*16777216+b*65536:Nat):Int)/\
 Go.bits .or .u32 ((a*16777216+b*65536:Nat):Int) ((c:Int)*256)=((a*16777216+b*65536+c*256:Nat):Int)/\
 Go.bits .or .u32 ((a*16777216+b*65536+c*256:Nat):Int) (d:Int)=((a*16777216+b*65536+c*256+d:Nat):Int):=by
 refine⟨?_,?_,?_⟩;rw[show(a:Int)*16777216=((a*16777216:Nat):Int) by omega,show(b:Int)*65536=((b*65536:Nat):Int) by omega,u32_or_nat _ _ (by omega) (by omega),nat_join 24 _ _ (by omega) (by omega)];rw[show(c:Int)*256=((c*256:Nat):Int) by omega,u32_or_nat _ _ (by omega) (by omega),nat_join 16 _ _ (by omega) (by omega)];rw[u32_or_nat _ _ (by omega) (by omega),nat_join 8 _ _ (by omega) (by omega)]
def Bl(f:Nat->Nat)(k i:Nat):Nat:=if i<k then f i else 0
def Jh(f k i):Fm (Bl f k) k (f k) i=Bl f (k+1) i:=by
 unfold Fm Bl
 grind
def AGP(v xs w)(hr:Rd .u8 w v xs)(hb:By xs)(hl:64<=xs.length):
 Calls prog 89 #[v] w λ e w'=>e=.returned (.agg (Ag .u32 64 (wF (wd (bN xs)))).toArray)/\Below w.heap.size w w':=by
 obtain⟨a,cap,hv,_⟩:=id hr;have HR:=z6 hr;have HB:=z6 hb;obtain⟨ab,ao,rfl,ag⟩:∃b o,a=some ⟨b,o,none⟩/\∀i,i<xs.length->w.cell? ⟨b,o+i,none⟩=some (.int .u8 (xs.getD i 0)):=by obtain⟨a',bh,e',_,_,_,h⟩:=hr;rw[hv]at e';cases e';rcases h with rfl|h;simp at hl;exact h
 have HC:=z6 ag;clear hr hb ag;subst hv;obtain⟨an,ai⟩:=zero_of_info MP;have a4:=z6 ai;obtain⟨f,hf⟩:=exH (wF (wd (bN xs)));have a3:Hid (∀i,f i<4294967296):=λ i=>by rw[<-hf.o];exact Wh (Wi (J3 HB.o)) i
 rw[hf.o];obtain⟨Z,hZ⟩:=exH ((Ag .u32 64 (λ _=>0)).toArray);rw[hZ.o]at an;obtain⟨F,hF⟩:=exH (Ag .u32 64 f);rw[hF.o];clear ai
 go_enter func89,ntmps89
 go_wp2_with fail;obtain⟨g,hg⟩:=exN (w.heap.size+1);have C0:Hid (Uv .u32 ((w.alloc (.cells Z 138)).alloc (.cells Z 138)) g 138 64 (Bl f 0)):=by have E:=Fn .u32 (w.alloc (.cells Z 138)) 138 64 (λ _=>0);rw[hZ.o]at E;rw[<-hg];have K:=E.congr (d:=Bl f 0) (λ i _=>by simp[Bl]);rw[World.size_alloc]at K;exact K
 have X:Hid (Below w.heap.size w ((w.alloc (.cells Z 138)).alloc (.cells Z 138))):=((Below.refl _ _).alloc (AE _) _).alloc (by simp) _;have R0:Hid (Uv .u32 ((w.alloc (.cells Z 138)).alloc (.cells Z 138)) w.heap.size 138 64 (λ _=>0)):=by have E:=Fn .u32 w 138 64 (λ _=>0);rw[hZ.o]at E;exact E.tch (S:=λ _=>False) ((AD.refl _ _).alloc _) (λ e=>e)
 obtain⟨Y,az⟩:=exH ((w.alloc (.cells Z 138)).alloc (.cells Z 138));rw[az.o]at C0 X R0 |-
 clear an hZ;rw[hg]
 go_loopw [9] (λ i wr=>∃k:Nat,k<=16/\i=.int .i64 k/\Hid (Uv .u32 wr g 138 64 (Bl f k))/\Hid (AD (λ k=>k=g) Y wr)) (λ i _=>16-(intOf i).toNat)
 case atStart=>exact⟨0,AI _,rfl,C0,AD.refl _ _⟩
 case round=>
  obtain⟨k,hk,rfl,q,T⟩:=hrel;by_cases a8:k<16
  .have cw:=q.o.at_ k (by omega);have fw:=q.o.fz k;go_wp2_with(refine AIO _ w rfl (.tmp 12) (.tmp 14) (.tmp 17) rfl _ xs rfl HR.o (4*k) 4 (by first|rfl|(simp[Act.eval])) (by first|rfl|(simp[Act.eval])) (by omega) ?_)
   rintro v' ⟨a2,bi,rfl,_,_,_,h2⟩;(have el:(List.take 4 (List.drop (4*k) xs)).length=4:=by simp;omega);rw[el]at h2 |-
   (obtain⟨sb,so,rfl,h3⟩:∃b o,a2=some ⟨b,o,none⟩/\∀i,i<4->w.cell? ⟨b,o+i,none⟩=some (.int .u8 ((List.take 4 (List.drop (4*k) xs)).getD i 0)):=by rcases h2 with h|h;rw[h]at el;simp at el;exact h);have A:Hid (∀j,j<4->∃b:Nat,b<256/\bN xs (4*k+j)=b/\wr.cell? ⟨sb,so+j,none⟩=some (.int .u8 (b:Int))):=λ j hj=>by (have E:=h3 j hj;have a7:=zb0 w ⟨sb,so+j,none⟩ E;have K:=X.o.cell (p:=⟨sb,so+j,none⟩) a7;have e:(List.take 4 (List.drop (4*k) xs)).getD j 0=xs.getD (4*k+j) 0:=by rw[AP,AP,zq0,if_pos hj,zp0]);refine⟨bN xs (4*k+j),J3 HB.o _,rfl,?_⟩;rw[T.o.cell (p:=⟨sb,so+j,none⟩) (by have:=X.o.size;simp only at a7 |-;omega) (λ e=>by simp only at a7 e;omega),K,E,e,Nd HB.o]
   obtain⟨b0,b6,e0,c0⟩:=A.o 0 (by decide);obtain⟨b1,b7,e1,c1⟩:=A.o 1 (by decide);obtain⟨b2,b8,e2,c2⟩:=A.o 2 (by decide);obtain⟨b3,b9,e3,c3⟩:=A.o 3 (by decide);rw[Nat.add_zero]at c0 e0;obtain⟨o1,o2,o3⟩:=AIH b0 b1 b2 b3 b6 b7 b8 b9;(have r:Hid (f k=b0*16777216+b1*65536+b2*256+b3):=by show _=_;rw[<-hf.o,Qe _ _ a8];unfold wd;rw[e0,e1,e2,e3]);obtain⟨X1,ad⟩:=exN (b0*16777216+b1*65536);rw[ad]at o1 o2 o3 r;obtain⟨X2,ae⟩:=exN (X1+b2*256);rw[ae]at o2 o3 r;obtain⟨X3,af⟩:=exN (X2+b3);rw[af]at o3 r;have a1:Hid (Uv .u32 (wr.setCell ⟨g,k,none⟩ (.int .u32 (X3:Int))) g 138 64 (Bl f (k+1))):=by rw[<-r.o];exact(q.o.set k (by omega) (f k)).congr (λ i _=>Jh f k i)
   have B:Hid (AD (λ k=>k=g) Y (wr.setCell ⟨g,k,none⟩ (.int .u32 (X3:Int)))):=AD.setCell T.o (p:=⟨g,k,none⟩) (λ _=>rfl) _;(have bj:(0:Int)<=(k:Int):=by omega);(have bk:(k:Int)<64:=by omega);(have bm:(k:Int)<=63:=by omega);clear A e0 e1 e2 e3 ad ae af h2 h3 el r q T;go_wp2_with fail
   go_still_tail 24,(by kernel_rfl)
   go_wp2_with fail
   go_roundw
   (case rel=>exact⟨k+1,by omega,by go_num,a1,B.o.drew⟩);case measure=>simp[intOf];omega
  .have aj:k=16:=by omega
   rw[aj]at q;(have ba:¬(k:Int)<16:=by omega);clear a8;go_wp2_with fail;clear hk ba aj
   go_loopw [6] (λ i wr=>∃k:Nat,16<=k/\k<=64/\i=.int .i64 k/\Hid (Uv .u32 wr g 138 64 (Bl f k))/\Hid (AD (λ k=>k=g) Y wr)) (λ i _=>64-(intOf i).toNat)
   (case atStart=>exact⟨16,AE _,by decide,rfl,q,T⟩);case round=>
    clear q T;obtain⟨k,bo,hk,rfl,q,T⟩:=hrel;by_cases a8:k<64
    .obtain⟨p,hp⟩:∃p,k=p+16:=⟨k-16,by omega⟩
     have A:Hid (∀j,j<k->wr.cell? ⟨g,j,none⟩=some (.int .u32 (f j:Int))):=λ j hj=>by have:=q.o.at_ j (by omega);rw[show Bl f k j=f j by unfold Bl;rw[if_pos hj]]at this;exact this
     (have r:Hid (f k=(f p+g0 (f (p+1))+f (p+9)+g1 (f (p+14))) % 4294967296):=by show _=_;rw[hp,<-hf.o,Qd]);obtain⟨q1,ak⟩:=exN (p+1);obtain⟨J,am⟩:=exN (p+9);obtain⟨a0,al⟩:=exN (p+14);rw[ak,am,al]at r;have cp:=A.o p (by omega);have c1:=A.o q1 (by omega);have c9:=A.o J (by omega);have a9:=A.o a0 (by omega);have II:=a3.o p;have l9:=a3.o J;have O:=a3.o q1;have U:=a3.o a0;obtain⟨V,hV⟩:=exN (f k);obtain⟨P0,aa⟩:=exN (f p);obtain⟨P9,ac⟩:=exN (f J);obtain⟨x,ap⟩:=exN (f q1);obtain⟨y,aq⟩:=exN (f a0);rw[aa]at cp II r;rw[ac]at c9 l9 r;rw[ap]at c1 O r;rw[aq]at a9 U r;have a1:Hid (Uv .u32 (wr.setCell ⟨g,k,none⟩ (.int .u32 (V:Int))) g 138 64 (Bl f (k+1))):=by
      rw[<-hV];exact(q.o.set k (by omega) (f k)).congr (λ i _=>Jh f k i)
     have B:Hid (AD (λ k=>k=g) Y (wr.setCell ⟨g,k,none⟩ (.int .u32 (V:Int)))):=AD.setCell T.o (p:=⟨g,k,none⟩) (λ _=>rfl) _;rw[hV]at r;have cw:=q.o.at_ k (by omega);have fw:=q.o.fz k;have t7:∀W,Calls prog 122 #[.int .u32 x,.int .i64 7] W λ e w'=>e=.returned (.int .u32 (Ap 7 x:Int))/\w'=W:=λ W=>Gr x 7 W (by decide) (by decide) O;have bf:∀W,Calls prog 122 #[.int .u32 x,.int .i64 18] W λ e w'=>e=.returned (.int .u32 (Ap 18 x:Int))/\w'=W:=λ W=>Gr x 18 W (by decide) (by decide) O;have be:∀W,Calls prog 122 #[.int .u32 y,.int .i64 17] W λ e w'=>e=.returned (.int .u32 (Ap 17 y:Int))/\w'=W:=λ W=>Gr y 17 W (by decide) (by decide) U
     have bg:∀W,Calls prog 122 #[.int .u32 y,.int .i64 19] W λ e w'=>e=.returned (.int .u32 (Ap 19 y:Int))/\w'=W:=λ W=>Gr y 19 W (by decide) (by decide) U;have r7:=DL 7 x (by decide) (by decide) O;have au:=DL 18 x (by decide) (by decide) O;have ar:=DL 17 y (by decide) (by decide) U;have av:=DL 19 y (by decide) (by decide) U;have x1:=u32_xor_nat _ _ r7 au;have x2:Go.bits .xor .u32 ((Ap 7 x ^^^ Ap 18 x:Nat):Int) ((x:Int) / 8)=(g0 x:Int):=by rw[show(x:Int) / 8=((x / 8:Nat):Int) by omega];exact u32_xor_nat _ _ (EU r7 au) (by omega)
     (have x3:=u32_xor_nat _ _ ar av;have x4:Go.bits .xor .u32 ((Ap 17 y ^^^ Ap 19 y:Nat):Int) ((y:Int) / 1024)=(g1 y:Int):=by rw[show(y:Int) / 1024=((y / 1024:Nat):Int) by omega];exact u32_xor_nat _ _ (EU ar av) (by omega));have bc:=AAN O;have bd:=AAO U;generalize g0 x=G0 at *
     generalize g1 y=G1 at *
     generalize Ap 7 x=R7 at *
     generalize Ap 18 x=R18 at *
     generalize Ap 17 y=R17 at *
     generalize Ap 19 y=R19 at *
     generalize R7 ^^^ R18=X7 at *
     generalize R17 ^^^ R19=X17 at *
     obtain⟨Y1,b4⟩:=exN ((P0+G0) % 4294967296);obtain⟨Y2,b5⟩:=exN ((Y1+P9) % 4294967296);(have y1:((P0:Int)+(G0:Int)) % 4294967296=(Y1:Int):=by omega);(have y2:((Y1:Int)+(P9:Int)) % 4294967296=(Y2:Int):=by omega);(have y3:((Y2:Int)+(G1:Int)) % 4294967296=(V:Int):=by have:=r.o;omega);(have bx:(k:Int)-16=(p:Int):=by omega);(have bw:(k:Int)-15=(q1:Int):=by omega);(have i7:(k:Int)-7=(J:Int):=by omega);(have i2:(k:Int)-2=(a0:Int):=by omega);(have bp:(p:Int)<64:=by omega);(have bq:(q1:Int)<64:=by omega);(have br:(J:Int)<64:=by omega);(have bu:(a0:Int)<64:=by omega);(have bn:(k:Int)<64:=by omega);have bz:IntKind.i64.wrap (p:Int)=(p:Int):=by rw[IntKind.wrap_i64];omega
     (have c4:IntKind.i64.wrap (J:Int)=(J:Int):=by rw[IntKind.wrap_i64];omega);(have c5:IntKind.u32.wrap ((P0:Int)+(G0:Int))=(Y1:Int):=by rw[IntKind.wrap_u32'];exact y1);(have c6:IntKind.u32.wrap ((Y1:Int)+(P9:Int))=(Y2:Int):=by rw[IntKind.wrap_u32'];exact y2);(have c7:IntKind.u32.wrap ((Y2:Int)+(G1:Int))=(V:Int):=by rw[IntKind.wrap_u32'];exact y3);clear A r q T b4 b5 aa ac ap aq hV bc bd hp ak am al;go_wp2_with fail;go_quiet (fail);go_wp2_with fail;obtain⟨L,I⟩:=exH (wr.drewN nq);(have dp:L.cell? ⟨g,p,none⟩=some (.int .u32 (P0:Int)):=by rw[<-I.o];exact cp);have d9:L.cell? ⟨g,J,none⟩=some (.int .u32 (P9:Int)):=by rw[<-I.o];exact c9
     (have dw:L.cell? ⟨g,k,none⟩=some (.int .u32 (Bl f k k:Int)):=by rw[<-I.o];exact cw);(have df:L.frozen? ⟨g,k,none⟩=false:=by rw[<-I.o];exact fw);(have aw:Hid (Uv .u32 (L.setCell ⟨g,k,none⟩ (.int .u32 (V:Int))) g 138 64 (Bl f (k+1))):=by rw[<-I.o];exact a1);(have T3:Hid (AD (λ k=>k=g) Y (L.setCell ⟨g,k,none⟩ (.int .u32 (V:Int)))):=by rw[<-I.o];exact⟨B.o.os,B.o.tape,B.o.output,B.o.size,B.o.block⟩);rw[I.o];clear cp c1 c9 a9 cw fw a1 B I;refine wp_region_still_tail 29 (by kernel_rfl) (by kernel_rfl) ?_;simp only[List.take_succ_cons,List.take_zero,List.drop_succ_cons,List.drop_zero]
     repeat(first|still_step|still_call (t7 _)|still_call (bf _)|still_call (be _)|still_call (bg _))
     refine wpStill_nil ?_;go_wp2_with fail
     go_roundw
     (case rel=>exact⟨k+1,by omega,by omega,by go_num,aw,T3.o.drew⟩);case measure=>simp[intOf];omega
    .obtain rfl:k=64:=by omega
     have RR:=z6 ((R0.o.tch T.o (λ e=>by omega)).there);have ay:Hid (wr.rangeAt g 0 F):=by rw[<-hF.o];exact(q.o.congr (d:=f) (λ i hi=>by unfold Bl;rw[if_pos hi])).range
     (have a5:Hid (F.length=64):=by show _=_;rw[<-hF.o,GO]);(have a6:Hid (F.toArray.size=64):=by show _=_;rw[List.size_toArray];exact a5.o);(have ax:Hid (F.toArray.all (·.oneCell')=true):=by show _=_;rw[<-hF.o];exact IZ _ _ _);go_wp2_with(first|(refine wpList_load_mid rfl 138 (.tmp 3) rfl g 0 rfl F _ ay.o underlying138 rfl (by rw[a5.o];exact a4.o) ?_)|(refine wpList_store_mid rfl 138 (.tmp 2) (.tmp 85) rfl w.heap.size 0 F.toArray rfl rfl (by rw[a6.o];exact RR.o) (by rw[a6.o];exact a4.o) ax.o ?_))
     have bb:=run_loadVar_mid (P:=prog) (wr.setCells w.heap.size 0 F.toArray.toList) w.heap.size 0 138 F _ (by
      have:=World.rangeAt_setCells_same wr w.heap.size 0 F.toArray.toList (by rw[Array.length_toList,a6.o];exact RR.o);simpa using this) underlying138 rfl (by rw[a5.o];exact a4.o)
     refine bodyPost_ret (v:=.agg F.toArray) ?_ rfl ⟨rfl,?_⟩;exact Kl (p:=2) (ty:=138) rfl _ _ _ w.heap.size _ rfl bb;have K:=X.o.trans (T.o.below X.o.size (λ k e=>by rw[e,<-hg];omega));exact K.trans ((Mt w.heap.size _ 0 wr).below K.size (λ k e=>by rw[e];exact AE _))
def Zf(s n)(h:s.at_ n<4294967296):Ga s (4*n)=s.at_ n / 16777216/\Ga s (4*n+1)=s.at_ n / 65536 % 256/\Ga s (4*n+2)=s.at_ n / 256 % 256/\Ga s (4*n+3)=s.at_ n % 256:=by
 unfold Ga;rw[show 4*n / 4=n by omega,show(4*n+1) / 4=n by omega,show(4*n+2) / 4=n by omega,show(4*n+3) / 4=n by omega,
  show 4*n % 4=0 by omega,show(4*n+1) % 4=1 by omega,show(4*n+2) % 4=2 by omega,show(4*n+3) % 4=3 by omega]
 omega
def YT(sg s w)(hs:Uv .u32 w sg 136 8 s.at_)(ho:s.ok):
 Calls prog 59 #[.pointer (some ⟨sg,0,none⟩)] w λ e w'=>e=.returned (.agg (Ag .u8 32 (Ga s)).toArray)/\Below w.heap.size w w':=by
 have HS:=z6 hs;have HO:Hid s.ok:=ho;have ao:=hs.lt;clear hs ho;obtain⟨aa,a8⟩:=zero_of_info TD;have a0:=z6 a8;obtain⟨f,hf⟩:=exH (Ga s);rw[hf.o];obtain⟨Z,hZ⟩:=exH ((Ag .u8 32 (λ _=>0)).toArray);rw[hZ.o]at aa;obtain⟨F,hF⟩:=exH (Ag .u8 32 f);rw[hF.o];clear a8
 go_enter func59,ntmps59
 go_wp2_with fail;obtain⟨g,hg⟩:=exN (w.heap.size+1);have C0:Hid (Uv .u8 ((w.alloc (.cells Z 81)).alloc (.cells Z 81)) g 81 32 (Bl f (4*0))):=by have O:=Fn .u8 (w.alloc (.cells Z 81)) 81 32 (λ _=>0);rw[hZ.o]at O;rw[<-hg];have U:=O.congr (d:=Bl f (4*0)) (λ i _=>by simp[Bl]);rw[World.size_alloc]at U;exact U
 have B0:Hid (Below w.heap.size w ((w.alloc (.cells Z 81)).alloc (.cells Z 81))):=((Below.refl _ _).alloc (AE _) _).alloc (by simp) _;have R0:Hid (Uv .u8 ((w.alloc (.cells Z 81)).alloc (.cells Z 81)) w.heap.size 81 32 (λ _=>0)):=by have O:=Fn .u8 w 81 32 (λ _=>0);rw[hZ.o]at O;exact O.tch (S:=λ _=>False) ((AD.refl _ _).alloc _) (λ e=>e)
 have a7:=z6 (HS.o.below B0.o);obtain⟨W0,ai⟩:=exH ((w.alloc (.cells Z 81)).alloc (.cells Z 81));rw[ai.o]at C0 B0 R0 a7 |-
 clear aa hZ HS;rw[hg]
 go_loopw [7] (λ i wr=>∃n:Nat,n<=8/\i=.int .i64 n/\Hid (Uv .u8 wr g 81 32 (Bl f (4*n)))/\Hid (AD (λ k=>k=g) W0 wr)) (λ i _=>8-(intOf i).toNat)
 case atStart=>exact⟨0,AI _,rfl,C0,AD.refl _ _⟩
 case round=>
  clear C0;obtain⟨n,hn,rfl,q,T⟩:=hrel;by_cases a9:n<8
  .have cs:=(a7.o.tch T.o (λ e=>by omega)).at_ n a9;obtain⟨E,I,J,K⟩:=Zf s n (HO.o.at_ n);have hx:=HO.o.at_ n;rw[hf.o]at E I J K;obtain⟨x,ae⟩:=exN (s.at_ n);rw[ae]at cs hx E I J K;obtain⟨m,hm⟩:=exN (4*n);rw[hm]at E I J K q;obtain⟨L,ab⟩:=exN (x / 16777216);obtain⟨W,hx1⟩:=exN (x / 65536 % 256);obtain⟨X,ac⟩:=exN (x / 256 % 256);obtain⟨Y,ad⟩:=exN (x % 256);rw[ab]at E;rw[hx1]at I;rw[ac]at J;rw[ad]at K;have a3:=(q.o.set m (by omega) L).congr (d:=Bl f (m+1)) (λ i _=>by rw[<-E];exact Jh f m i);have a4:=(a3.set (m+1) (by omega) W).congr (d:=Bl f (m+2)) (λ i _=>by rw[<-I];exact Jh f (m+1) i);have a5:=(a4.set (m+2) (by omega) X).congr (d:=Bl f (m+3)) (λ i _=>by rw[<-J];exact Jh f (m+2) i)
   have a6:=(a5.set (m+3) (by omega) Y).congr (d:=Bl f (m+4)) (λ i _=>by rw[<-K];exact Jh f (m+3) i);have T4:=AD.setCell (AD.setCell (AD.setCell (AD.setCell T.o (p:=⟨g,m,none⟩) (λ _=>rfl) (.int .u8 (L:Int))) (p:=⟨g,m+1,none⟩) (λ _=>rfl) (.int .u8 (W:Int))) (p:=⟨g,m+2,none⟩) (λ _=>rfl) (.int .u8 (X:Int))) (p:=⟨g,m+3,none⟩) (λ _=>rfl) (.int .u8 (Y:Int));have c0:=q.o.at_ m (by omega);have f0:=q.o.fz m;have c1:=q.o.at_ (m+1) (by omega);have f1:=q.o.fz (m+1);have c2:=q.o.at_ (m+2) (by omega);have f2:=q.o.fz (m+2);have c3:=q.o.at_ (m+3) (by omega);have f3:=q.o.fz (m+3);generalize Bl f m m=z0 at c0;generalize Bl f m (m+1)=z1 at c1;generalize Bl f m (m+2)=z2 at c2;generalize Bl f m (m+3)=z3 at c3
   have CE:=z6 a6;have B:=z6 T4;(have i0:4*(n:Int)=(m:Int):=by omega);(have b0:(x:Int) / 16777216=(L:Int):=by omega);(have b1:(x:Int) / 65536 % 256=(W:Int):=by omega);(have b2:(x:Int) / 256 % 256=(X:Int):=by omega);(have b3:(x:Int) % 256=(Y:Int):=by omega);(have ap:L<256:=by omega);(have am:(m:Int)+3<32:=by omega);(have al:(n:Int)<8:=by omega);clear q a3 a4 a5 a6 T4 T E I J K ae ab hx1 ac ad;go_wp2_with fail;go_quiet (fail);obtain⟨A,r⟩:=exH (wr.drewN nq);(have d0:A.cell? ⟨g,m,none⟩=some (.int .u8 (z0:Int)):=by rw[<-r.o];exact c0);(have d1:A.cell? ⟨g,m+1,none⟩=some (.int .u8 (z1:Int)):=by rw[<-r.o];exact c1);have d2:A.cell? ⟨g,m+2,none⟩=some (.int .u8 (z2:Int)):=by rw[<-r.o];exact c2
   (have d3:A.cell? ⟨g,m+3,none⟩=some (.int .u8 (z3:Int)):=by rw[<-r.o];exact c3);(have k0:A.frozen? ⟨g,m,none⟩=false:=by rw[<-r.o];exact f0);(have k1:A.frozen? ⟨g,m+1,none⟩=false:=by rw[<-r.o];exact f1);(have k2:A.frozen? ⟨g,m+2,none⟩=false:=by rw[<-r.o];exact f2);(have k3:A.frozen? ⟨g,m+3,none⟩=false:=by rw[<-r.o];exact f3);have CF:Hid (Uv .u8 ((((A.setCell ⟨g,m,none⟩ (.int .u8 (L:Int))).setCell ⟨g,m+1,none⟩ (.int .u8 (W:Int))).setCell ⟨g,m+2,none⟩ (.int .u8 (X:Int))).setCell ⟨g,m+3,none⟩ (.int .u8 (Y:Int))) g 81 32 (Bl f (m+4))):=by rw[<-r.o];exact CE
   (have TF:Hid (AD (λ k=>k=g) W0 ((((A.setCell ⟨g,m,none⟩ (.int .u8 (L:Int))).setCell ⟨g,m+1,none⟩ (.int .u8 (W:Int))).setCell ⟨g,m+2,none⟩ (.int .u8 (X:Int))).setCell ⟨g,m+3,none⟩ (.int .u8 (Y:Int)))):=by rw[<-r.o];exact⟨B.o.os,B.o.tape,B.o.output,B.o.size,B.o.block⟩);rw[r.o];clear r CE B c0 c1 c2 c3 f0 f1 f2 f3 cs;go_wp2_with fail
   go_roundw
   (case rel=>exact⟨n+1,by omega,by go_num,by rw[show 4*(n+1)=m+4 by omega];exact CF,TF⟩);case measure=>simp[intOf];omega
  .have ak:n=8:=by omega
   rw[ak]at q;(have an:¬(n:Int)<8:=by omega);have RR:=z6 ((R0.o.tch T.o (λ e=>by omega)).there);have ag:Hid (wr.rangeAt g 0 F):=by rw[<-hF.o];exact(q.o.congr (d:=f) (λ i hi=>by unfold Bl;rw[if_pos hi])).range
   (have a1:Hid (F.length=32):=by show _=_;rw[<-hF.o,GO]);(have a2:Hid (F.toArray.size=32):=by show _=_;rw[List.size_toArray];exact a1.o);(have af:Hid (F.toArray.all (·.oneCell')=true):=by show _=_;rw[<-hF.o];exact IZ _ _ _);clear a9;go_wp2_with(first|(refine wpList_load_mid rfl 81 (.tmp 3) rfl g 0 rfl F _ ag.o underlying81 rfl (by rw[a1.o];exact a0.o) ?_)|(refine wpList_store_mid rfl 81 (.tmp 2) (.tmp 40) rfl w.heap.size 0 F.toArray rfl rfl (by rw[a2.o];exact RR.o) (by rw[a2.o];exact a0.o) af.o ?_))
   have aj:=run_loadVar_mid (P:=prog) (wr.setCells w.heap.size 0 F.toArray.toList) w.heap.size 0 81 F _ (by
    have:=World.rangeAt_setCells_same wr w.heap.size 0 F.toArray.toList (by rw[Array.length_toList,a2.o];exact RR.o);simpa using this) underlying81 rfl (by rw[a1.o];exact a0.o)
   refine bodyPost_ret (v:=.agg F.toArray) ?_ rfl ⟨rfl,?_⟩;exact Kl (p:=2) (ty:=81) rfl _ _ _ w.heap.size _ rfl aj;have U:=B0.o.trans (T.o.below B0.o.size (λ k e=>by rw[e,<-hg];omega));exact U.trans ((Mt w.heap.size _ 0 wr).below U.size (λ k e=>by rw[e];exact AE _))
def AFZ(w C)(n:Nat)(v)(E:n<8)(hv:C[n]?=some v):(Instr.index 135 (.agg C) (.int .i64 (n:Int))).run prog w=.ok v w:=by
 have A:=underlying135;have q:(prog.info? 134).map (·.size)=some 1:=by kernel_rfl
 obtain⟨i,B,I⟩:=Option.map_eq_some_iff.1 q;have r:(sizeOf 134).run prog w=.ok 1 w:=by simp
 have f:(isAgg 134).run prog w=.ok false w:=by unfold isAgg;rw[Sem.run_bind,run_underlying underlying134 w];rfl
 have hc:(0:Int)<=(n:Int)/\(n:Int)<((8:Nat):Int):=⟨by omega,by omega⟩
 simp only[Instr.index,asIntOf,Sem.run_bind,Sem.run_pure,Result.andThen_ok,run_underlying A w,if_pos hc,r,part,f,Int.toNat_natCast,Nat.mul_one,hv];rfl
def AIN(w){f q o a Q}(A:o.guard=none)(x i)(I:o.op=.index 135 x i)(C)(n:Nat)(v)(L:a.eval x=.agg C)(B:a.eval i=.int .i64 (n:Int))(E:n<8)(hv:C[n]?=some v)(h:wpList prog f Q q (a.put o.dst v) w):wpList prog f Q (o::q) a w:=by
 refine wpList_plain A λ K r=>?_;have J:=AFZ w C n v E hv;unfold Oper.wp execOp;simp only[I,L,B,Sem.run_bind,J,Result.andThen_ok,Sem.run_pure];exact r _ _ h
def half(s r:St)(n i:Nat):Nat:=if i<n then(s.at_ i+r.at_ i) % 4294967296 else s.at_ i
def AAt(s r n i):Fm (half s r n) n ((s.at_ n+r.at_ n) % 4294967296) i=half s r (n+1) i:=by
 unfold Fm half
 grind
def AC3(q kg wg s k w W)(B:Uv .u32 W q 136 8 s.at_)(hk:Uv .u32 W kg 138 64 k)(hw:Uv .u32 W wg 138 64 w)(ho:s.ok)(ab:∀i,k i<4294967296)(ae:∀i,w i<4294967296):
 Calls prog 90 #[.pointer (some ⟨q,0,none⟩),.pointer (some ⟨kg,0,none⟩),.pointer (some ⟨wg,0,none⟩)] W λ e w'=>e=.returned (.tuple #[])/\Uv .u32 w' q 136 8 (Gi k w s).at_/\AD (λ b=>b=q) W w':=by
 have HS:=z6 B;have HK:=z6 hk;have HW:=z6 hw;have HO:Hid s.ok:=ho;have am:=z6 ab;have ao:=z6 ae;have c0:=B.at_ 0 (by decide);have c1:=B.at_ 1 (by decide);have c2:=B.at_ 2 (by decide);have c3:W.cell? ⟨q,3,none⟩=some (.int .u32 (s.d:Int)):=B.at_ 3 (by decide);have c4:W.cell? ⟨q,4,none⟩=some (.int .u32 (s.e:Int)):=B.at_ 4 (by decide);have c5:W.cell? ⟨q,5,none⟩=some (.int .u32 (s.f:Int)):=B.at_ 5 (by decide);have c6:W.cell? ⟨q,6,none⟩=some (.int .u32 (s.g:Int)):=B.at_ 6 (by decide);have c7:W.cell? ⟨q,7,none⟩=some (.int .u32 (s.h:Int)):=B.at_ 7 (by decide);clear B hk hw ho ab ae
 go_enter func90,ntmps90
 go_wp2_with fail;go_quiet (fail);go_wp2_with fail;clear c0 c1 c2 c3 c4 c5 c6 c7
 go_loopw [6,7,8,9,10,11,12,13,51] (λ xa xb xc xd xe xf xg xh i wr=>∃(n:Nat)(r:St),n<=64/\i=.int .i64 n/\xa=.int .u32 r.a/\xb=.int .u32 r.b/\xc=.int .u32 r.c/\xd=.int .u32 r.d/\xe=.int .u32 r.e/\xf=.int .u32 r.f/\xg=.int .u32 r.g/\xh=.int .u32 r.h/\Hid (Hi k w s n=r)/\Hid (AD (λ _=>False) W wr)) (λ _ _ _ _ _ _ _ _ i _=>64-(intOf i).toNat)
 case atStart=>exact⟨0,s,AI _,rfl,rfl,rfl,rfl,rfl,rfl,rfl,rfl,rfl,rfl,⟨rfl,rfl,rfl,AE _,λ _ _ _=>rfl⟩⟩
 case round=>
  obtain⟨n,r,hn,rfl,rfl,rfl,rfl,rfl,rfl,rfl,rfl,rfl,X,T⟩:=hrel;by_cases E:n<64
  .have hr:r.ok:=by rw[<-X.o];exact Pk HO.o k w n
   (have O:Hid (Hi k w s (n+1)=Mm r (k n) (w n)):=by show _=_;simp only[Hi];rw[X.o]);have ck:=(HK.o.tch T.o (λ e=>e)).at_ n E;have cw:=(HW.o.tch T.o (λ e=>e)).at_ n E;have lk:=am.o n;have lw:=ao.o n;obtain⟨K,hK⟩:=exN (k n);obtain⟨V,hV⟩:=exN (w n);rw[hK]at ck lk O;rw[hV]at cw lw O;clear hK hV X;obtain⟨a,b,c,d,e,f,g,h⟩:=r;obtain⟨ha,J,hc,hd,A,hf,hg,hh⟩:=hr;simp only at ha J hc hd A hf hg hh |-
   have t6:∀W,Calls prog 122 #[.int .u32 e,.int .i64 6] W λ x w'=>x=.returned (.int .u32 (Ap 6 e:Int))/\w'=W:=λ W=>Gr e 6 W (by decide) (by decide) A;have aj:∀W,Calls prog 122 #[.int .u32 e,.int .i64 11] W λ x w'=>x=.returned (.int .u32 (Ap 11 e:Int))/\w'=W:=λ W=>Gr e 11 W (by decide) (by decide) A;have ak:∀W,Calls prog 122 #[.int .u32 e,.int .i64 25] W λ x w'=>x=.returned (.int .u32 (Ap 25 e:Int))/\w'=W:=λ W=>Gr e 25 W (by decide) (by decide) A;have t2:∀W,Calls prog 122 #[.int .u32 a,.int .i64 2] W λ x w'=>x=.returned (.int .u32 (Ap 2 a:Int))/\w'=W:=λ W=>Gr a 2 W (by decide) (by decide) ha
   have av:∀W,Calls prog 122 #[.int .u32 a,.int .i64 13] W λ x w'=>x=.returned (.int .u32 (Ap 13 a:Int))/\w'=W:=λ W=>Gr a 13 W (by decide) (by decide) ha;have aw:∀W,Calls prog 122 #[.int .u32 a,.int .i64 22] W λ x w'=>x=.returned (.int .u32 (Ap 22 a:Int))/\w'=W:=λ W=>Gr a 22 W (by decide) (by decide) ha;have r6:=DL 6 e (by decide) (by decide) A;have a1:=DL 11 e (by decide) (by decide) A;have ai:=DL 25 e (by decide) (by decide) A;have r2:=DL 2 a (by decide) (by decide) ha;have a2:=DL 13 a (by decide) (by decide) ha;have ag:=DL 22 a (by decide) (by decide) ha;have x1:=u32_xor_nat _ _ r6 a1
   have x2:Go.bits .xor .u32 ((Ap 6 e ^^^ Ap 11 e:Nat):Int) (Ap 25 e:Int)=(s1 e:Int):=u32_xor_nat _ _ (EU r6 a1) ai;have x3:=u32_xor_nat _ _ r2 a2;have x4:Go.bits .xor .u32 ((Ap 2 a ^^^ Ap 13 a:Nat):Int) (Ap 22 a:Int)=(s0 a:Int):=u32_xor_nat _ _ (EU r2 a2) ag;have n1:=PI e A;have af:Go.bits .xor .u32 (if IntKind.u32.signed=true then -1 else IntKind.u32.max) (e:Int)=((4294967295-e:Nat):Int):=PI e A;have n2:=u32_and_nat e f A hf;have n3:=u32_and_nat (4294967295-e) g (by omega) hg;have n4:Go.bits .xor .u32 ((e &&& f:Nat):Int) (((4294967295-e) &&& g:Nat):Int)=(ch e f g:Int):=u32_xor_nat _ _ (FY _ hf) (FY _ hg);have m1:=u32_and_nat a b ha J;have m2:=u32_and_nat a c ha hc
   have m3:=u32_and_nat b c J hc;have m4:=u32_xor_nat _ _ (FY a J) (FY a hc);have m5:Go.bits .xor .u32 (((a &&& b) ^^^ (a &&& c):Nat):Int) ((b &&& c:Nat):Int)=(mj a b c:Int):=u32_xor_nat _ _ (EU (FY _ J) (FY _ hc)) (FY _ hc);have l1:=AFf A;have l2:=AFe ha;have l3:=Yj (e:=e) hf hg;have l4:=AC5 (a:=a) J hc;simp only[Mm,tt,uu]at O;generalize s1 e=S1 at *
   generalize s0 a=S0 at *
   generalize ch e f g=CH at *
   generalize mj a b c=MJ at *
   generalize Ap 6 e=R6 at *
   generalize Ap 11 e=R11 at *
   generalize Ap 25 e=R25 at *
   generalize Ap 2 a=R2 at *
   generalize Ap 13 a=R13 at *
   generalize Ap 22 a=R22 at *
   generalize R6 ^^^ R11=X6 at *
   generalize R2 ^^^ R13=X2 at *
   generalize (4294967295-e) &&& g=NG at *
   generalize e &&& f=EF at *
   generalize (a &&& b) ^^^ (a &&& c)=AA at *
   generalize a &&& b=AB at *
   generalize a &&& c=AC at *
   generalize b &&& c=BC at *
   obtain⟨NE,a5⟩:=exN (4294967295-e);rw[a5]at n1 af n3;obtain⟨I,ap⟩:=exN ((h+S1) % 4294967296);obtain⟨Z,aq⟩:=exN ((I+CH) % 4294967296);obtain⟨T3,ar⟩:=exN ((Z+K) % 4294967296);obtain⟨T4,a8⟩:=exN ((h+S1+CH+K+V) % 4294967296);obtain⟨U,hU⟩:=exN ((S0+MJ) % 4294967296);rw[a8,hU]at O;obtain⟨A',a3⟩:∃Y,(T4+U) % 4294967296=Y:=⟨_,rfl⟩
   obtain⟨D',a4⟩:∃Y,(d+T4) % 4294967296=Y:=⟨_,rfl⟩
   rw[a3,a4]at O;(have y1:((h:Int)+(S1:Int)) % 4294967296=(I:Int):=by omega);(have y2:((I:Int)+(CH:Int)) % 4294967296=(Z:Int):=by omega);(have y3:((Z:Int)+(K:Int)) % 4294967296=(T3:Int):=by omega);(have y4:((T3:Int)+(V:Int)) % 4294967296=(T4:Int):=by omega);(have y5:((S0:Int)+(MJ:Int)) % 4294967296=(U:Int):=by omega);(have y6:((T4:Int)+(U:Int)) % 4294967296=(A':Int):=by omega);(have y7:((d:Int)+(T4:Int)) % 4294967296=(D':Int):=by omega);(have ax:(n:Int)<64:=by omega);clear a5 ap aq ar a8 hU a3 a4 r6 a1 ai r2 a2 ag l1 l2 l3 l4 ha J hc hd A hf hg hh lk lw;go_wp2_with fail
   go_quiet (first|(go_at_call 122;exact Calls.quiet_of_same (t6 _))|(go_at_call 122;exact Calls.quiet_of_same (aj _))|(go_at_call 122;exact Calls.quiet_of_same (ak _)));have T5:Hid (AD (λ _=>False) W (wr.drewN nq)):=⟨T.o.os,T.o.tape,T.o.output,T.o.size,T.o.block⟩
   obtain⟨W1,a9⟩:=exH (wr.drewN nq);rw[a9.o]at T5 |-
   clear T ck cw a9 t6 aj ak x1 x2 n1 af n2 n3 n4;go_wp2_with(first|(go_at_call 122;refine(t2 _).mono ?_;rintro _ _ ⟨rfl,rfl⟩)|(go_at_call 122;refine(av _).mono ?_;rintro _ _ ⟨rfl,rfl⟩)|(go_at_call 122;refine(aw _).mono ?_;rintro _ _ ⟨rfl,rfl⟩))
   go_roundw
   (case rel=>exact⟨n+1,⟨A',a,b,c,D',e,f,g⟩,by omega,by go_num,by first|rfl|rw[y6],rfl,rfl,rfl,by first|rfl|rw[y7],rfl,rfl,rfl,O,T5⟩);case measure=>simp[intOf];omega
  .have ac:n=64:=by omega
   rw[ac]at X;(have ad:¬(n:Int)<64:=by omega);have al:Hid (∀m,m<8->(#[.int .u32 (r.a:Int),.int .u32 (r.b:Int),.int .u32 (r.c:Int),.int .u32 (r.d:Int),.int .u32 (r.e:Int),.int .u32 (r.f:Int),.int .u32 (r.g:Int),.int .u32 (r.h:Int)]:Array Value)[m]?=some (.int .u32 (r.at_ m:Int))):=λ m hm=>by
    match m,hm with
    | 0,_=>rfl|1,_=>rfl|2,_=>rfl|3,_=>rfl|4,_=>rfl|5,_=>rfl|6,_=>rfl|7,_=>rfl
   (have hr:r.ok:=by rw[<-X.o];exact Pk HO.o k w 64);have an:Hid r.ok:=hr;have H0:Hid (Uv .u32 wr q 136 8 (half s r 0)):=(HS.o.tch T.o (λ e=>e)).congr (λ i _=>by simp[half]);have T0:Hid (AD (λ b=>b=q) W wr):=T.o.mono (λ _ _ e=>e.elim);clear E hr;go_wp2_with fail;clear hn ad ac T
   go_loopw [127] (λ i wr=>∃m:Nat,m<=8/\i=.int .i64 m/\Hid (Uv .u32 wr q 136 8 (half s r m))/\Hid (AD (λ b=>b=q) W wr)) (λ i _=>8-(intOf i).toNat)
   (case atStart=>exact⟨0,AI _,rfl,H0,T0⟩);case round=>
    clear H0 T0;obtain⟨m,hm,rfl,L,I⟩:=hrel;by_cases E:m<8
    .have cm:=L.o.at_ m E;have fm:=L.o.fz m;(have aa:half s r m m=s.at_ m:=by unfold half;rw[if_neg (by omega)]);rw[aa]at cm;have hP:=HO.o.at_ m;have hQ:=an.o.at_ m;obtain⟨Y,hY⟩:=exN ((s.at_ m+r.at_ m) % 4294967296);have H2:Hid (Uv .u32 (wr.setCell ⟨q,m,none⟩ (.int .u32 (Y:Int))) q 136 8 (half s r (m+1))):=by rw[<-hY];exact(L.o.set m E _).congr (λ i _=>AAt s r m i)
     have Z:Hid (AD (λ b=>b=q) W (wr.setCell ⟨q,m,none⟩ (.int .u32 (Y:Int)))):=AD.setCell I.o (p:=⟨q,m,none⟩) (λ _=>rfl) _;obtain⟨P,a6⟩:=exN (s.at_ m);obtain⟨Q,a7⟩:=exN (r.at_ m);have a0:=al.o m E;rw[a6]at cm hP hY;rw[a7]at a0 hQ hY;(have y1:((P:Int)+(Q:Int)) % 4294967296=(Y:Int):=by omega);(have az:IntKind.u32.wrap ((P:Int)+(Q:Int))=(Y:Int):=by rw[IntKind.wrap_u32'];exact y1);(have ay:(m:Int)<8:=by omega);have HX:Hid ((#[.int .u32 (r.a:Int),.int .u32 (r.b:Int),.int .u32 (r.c:Int),.int .u32 (r.d:Int),.int .u32 (r.e:Int),.int .u32 (r.f:Int),.int .u32 (r.g:Int),.int .u32 (r.h:Int)]:Array Value)[m]?=some (.int .u32 (Q:Int))):=a0;clear hY a6 a7 aa L I hP hQ a0
     go_wp2_with(refine AIN _ rfl (.tmp 126) (.tmp 127) rfl _ m (.int .u32 (Q:Int)) rfl rfl E HX.o ?_)
     go_still_tail 9,(by kernel_rfl)
     go_wp2_with fail
     go_roundw
     (case rel=>exact⟨m+1,by omega,by go_num,H2,Z.o.drew⟩);case measure=>simp[intOf];omega
    .have au:m=8:=by omega
     rw[au]at L;(have ad:¬(m:Int)<8:=by omega);have HE:Hid (Uv .u32 wr q 136 8 (Gi k w s).at_):=L.o.congr (λ i hi=>by
      unfold Gi half;rw[XN _ _ _ hi,if_pos hi,X.o])
     clear E;go_wp2_with fail
     go_end0
     exact⟨rfl,HE.o,I.o⟩
def CY(b:Nat->Nat)(s:St):Nat->St
 | 0=>s
 | p+1=>Gi kF (wF (wd λ j=>b (64*p+j))) (CY b s p)
def WS(b:Nat->Nat){s:St}(h:s.ok):∀p,(CY b s p).ok
 | 0=>h
 | p+1=>Qx _ _
def WR(b:Nat->Nat):∀p,CY b ER p=dg b p
 | 0=>rfl
 | p+1=>by simp only[CY,dg];rw[WR b p]
def WQ{b c}(s n)(h:∀j,j<64*n->b j=c j):CY b s n=CY c s n:=by
 induction n with
 | zero=>rfl
 | succ n q=>
  simp only[CY];rw[q (λ j f=>h j (by omega))];refine AC2 _ (λ _ _=>rfl) (λ i _=>?_);refine AH9 (λ j f=>?_) i;simp only[wd]
  grind
def WP(b:Nat->Nat)(s:St)(m:Nat):∀n,CY (λ j=>b (64*m+j)) (CY b s m) n=CY b s (m+n)
 | 0=>rfl
 | n+1=>by
  rw[<-Nat.add_assoc];simp only[CY];rw[WP b s m n]
  grind
def J6{xs}(h:By xs)(m):By (xs.drop m):=λ i=>by
 have:=h (m+i)
 grind
def RD(xs m i):bN (xs.drop m) i=bN xs (m+i):=by unfold bN;simp
def Un{w w' v xs g t n c}(h:Rd .u8 w v xs)(J:Uv .u32 w g t n c)(I:AD (λ b=>b=g) w w'):Rd .u8 w' v xs:=by
 obtain⟨a,cap,rfl,B,E,r,h⟩:=h;refine⟨a,cap,rfl,B,E,r,?_⟩;rcases h with h|⟨b,o,rfl,hc⟩
 .grind
 .refine .inr ⟨b,o,rfl,λ i A=>?_⟩;have f:=hc i A;rw[I.cell (p:=⟨b,o+i,none⟩) (zb0 w ⟨b,o+i,none⟩ f) (λ e=>?_)];exact f;simp only at e;subst e;rw[cell_of_row w b (o+i) _ _ (0,0) J]at f;by_cases q:o+i<n;simp[Ag,q]at f;simp[Ag,q]at f
def V9(q kg s v xs n W)(hs:Uv .u32 W q 136 8 s.at_)(hk:Uv .u32 W kg 138 64 kF)(a3:kg≠q)(ho:s.ok)(hr:Rd .u8 W v xs)(hb:By xs)(hl:xs.length=64*n):
 Calls prog 57 #[.pointer (some ⟨q,0,none⟩),.pointer (some ⟨kg,0,none⟩),v] W λ e w'=>e=.returned (.tuple #[])/\Uv .u32 w' q 136 8 (CY (bN xs) s n).at_/\AD (λ b=>b=q) W w':=by
 have HS:=z6 hs;have HK:=z6 hk;have a1:=z6 a3;have HO:Hid s.ok:=ho;have HR:=z6 hr;have HB:=z6 hb;clear hs hk a3 ho hr hb;obtain⟨ab,a2⟩:=zero_of_info MP;have a6:=z6 a2;obtain⟨Z,hZ⟩:=exH ((Ag .u32 64 (λ _=>0)).toArray);rw[hZ.o]at ab;have a7:Hid (Z.size=64):=by show _=_;rw[<-hZ.o];exact Gu _ _ _
 clear a2
 go_enter func57,ntmps57
 go_wp2_with fail
 go_loopw [2] (λ d wr=>∃p:Nat,p<=n/\Hid (Rd .u8 wr d (xs.drop (64*p)))/\Hid (Uv .u32 wr q 136 8 (CY (bN xs) s p).at_)/\Hid (AD (λ b=>b=q) W wr)) (λ d _=>match d with | .slice _ l _=>l|_=>0)
 case atStart=>exact⟨0,AI _,HR,HS,AD.refl _ _⟩
 case round=>
  obtain⟨p,hp,A,I,O⟩:=hrel;obtain⟨a,cap,hd,_⟩:=id A.o;have B:(xs.drop (64*p)).length=64*(n-p):=by rw[zg0,hl];omega
  rw[B]at hd;subst hd;by_cases a8:p<n
  .obtain⟨f,Y⟩:=exH (wF (wd (bN (xs.drop (64*p)))));(have a4:Hid (∀i,f i<4294967296):=λ i=>by rw[<-Y.o];exact Wh (Wi (J3 (J6 HB.o _))) i);have E:Hid (Calls prog 89 #[.slice a (64*(n-p)) cap] wr λ e w'=>e=.returned (.agg (Ag .u32 64 f).toArray)/\Below wr.heap.size wr w'):=by show Calls _ _ _ _ _;rw[<-Y.o];exact AGP _ _ wr A.o (J6 HB.o _) (by omega)
   (have HE:Hid (Gi kF f (CY (bN xs) s p)=CY (bN xs) s (p+1)):=by show _=_;simp only[CY];rw[<-Y.o];refine congrArg (λ b=>Gi kF (wF (wd b)) (CY (bN xs) s p)) ?_;funext j;rw[RD]);obtain⟨F,hF⟩:=exH (Ag .u32 64 f);rw[hF.o]at E;(have a0:Hid (F.toArray.size=64):=by show _=_;rw[<-hF.o];exact Gu _ _ _);(have a5:Hid (F.toArray.all (·.oneCell')=true):=by show _=_;rw[<-hF.o];exact IZ _ _ _);(have aa:(0:Int)<((64*(n-p):Nat):Int):=by omega);obtain⟨M,hM⟩:=exN (64*(n-p));rw[hM]at B E aa |-
   rw[hM]at A;go_wp2_with fail;refine E.o.mono ?_;rintro e r ⟨rfl,K⟩;have R2:=z6 (A.o.below K);have X:=z6 (I.o.below K);have T:Hid (AD (λ b=>b=q) W r):=O.o.trans (S':=λ _=>False) (AD.of_below K) (λ _ _ e=>e.elim);clear E K A I O;go_wp2_with(with_reducible (show wpList _ _ _ (Oper.mk _ (Op.store _ _ _) _ _ _ _::_) _ _);refine LJ r rfl 138 (.tmp 6) (.tmp 13) rfl Z F.toArray rfl rfl (by rw[a0.o];exact a6.o) (by rw[a0.o,a7.o]) a5.o ?_)
   have U:AD (λ b=>b=q) r (r.alloc (.cells F.toArray 138)):=(AD.refl _ _).alloc _;have J:Below r.heap.size r (r.alloc (.cells F.toArray 138)):=(Below.refl _ _).alloc (AE _) _;have u3:=Fn .u32 r 138 64 f;rw[hF.o]at u3;have UK:=(HK.o.tch T.o a1.o).tch U a1.o;refine(AC3 q kg r.heap.size (CY (bN xs) s p) kF f _ (X.o.below J) UK u3 (WS _ HO.o p) ABg a4.o).mono ?_;rintro e w4 ⟨rfl,u4,t4⟩;rw[HE.o]at u4;have L:=z6 (Un (R2.o.below J) (X.o.below J) t4);have U4:=z6 u4;have T4:Hid (AD (λ b=>b=q) W w4):=T.o.trans (U.trans t4 (λ _ _ e=>e)) (λ _ _ e=>e);clear u3 UK u4 t4 U J R2 X T;have R5:Hid (Rd .u8 w4 (sliced a 64 M cap 1) (xs.drop (64*(p+1)))):=by
    have r4:=L.o;rw[<-B]at r4;have h5:=Je r4 64 (xs.drop (64*p)).length (by omega) (AE _);rw[B,zx0,show 64*p+64=64*(p+1) by omega,Cj (by rw[zg0,hl];omega)]at h5;exact h5
   (have ac:64<=M:=by omega);have ad:M<=cap:=by obtain⟨_,_,e,h,_⟩:=L.o;cases e;rw[B]at h;exact h
   clear L;go_wp2_with fail
   go_roundw
   (case rel=>exact⟨p+1,a8,by show Rd _ _ _ _;have h:=R5.o;simpa[sliced,Addr.add]using h,U4,T4⟩);case measure=>simp;omega
  .have a9:p=n:=by omega
   (have hz:64*(n-p)=0:=by omega);rw[hz]at A |-
   rw[a9]at I;go_wp2_with fail
   go_end0
   exact⟨rfl,I.o,O.o⟩
