import Derived.Test.YtihofcopapmjlaaGreatPCkReg
import Derived.Test.YtihofcopapmjlaaGreatPFBkw
set_option maxRecDepth 100000
set_option linter.all false
set_option maxHeartbeats 8000000
namespace Go.Proofs.YtihofcopapmjlaaGreat
open Go.Proofs.Tryz
open Go.RowKit Go.Shelf
attribute [local go_sem] Oper.semAt_some
def KC(Bs Bn:Nat)(W W':World):Prop:=(∀v,W.cell? ⟨Bs,0,none⟩=some v->W'.cell? ⟨Bs,0,none⟩=some v)/\∀v,W.cell? ⟨Bn,0,none⟩=some v->W'.cell? ⟨Bn,0,none⟩=some v
def KC.t{Bs f A B C}(h:KC Bs f A B)(k:KC Bs f B C):KC Bs f A C:=⟨λ v hv=>k.1 v (h.1 v hv),λ v hv=>k.2 v (h.2 v hv)⟩
def KC.r(Bs f W):KC Bs f W W:=⟨λ _ h=>h,λ _ h=>h⟩
def KC.b{Bs q}(W l o f)(h:W.heap[l]?=some o)(hc:o.isCells=false):KC Bs q W (W.putObj l f):=
 ⟨λ v hv=>cell_kept hv (grownBy_putObj' W l f) (λ r e=>by grind),λ v hv=>cell_kept hv (grownBy_putObj' W l f) (λ r e=>by grind)⟩
abbrev LO(n:Nat):Type:={ j:Nat // 240*j<n\/n=0 }
def Kf(b off n:Nat)(x:LO n):Array Value:=#[.slice (some ⟨b,off+240*x.1,none⟩) (min 240 (n-240*x.1)) (min 240 (n-240*x.1))]
def Ex(n:Nat)(j:Nat):LO n:=if h:240*j<n then⟨j,.inl h⟩else⟨0,by omega⟩
def UZ{n j}(h:240*j<n):(Ex n j).1=j:=by unfold Ex;grind
def Dj(n:Nat):Nat:=(n+239) / 240
def AEE(n):(Ci (Ex n) (Dj n)).map (·.1)=List.range (Dj n):=by unfold Ci;rw[List.map_map];refine List.ext_getElem (by simp) (λ i f q=>?_);simp only[List.getElem_map,List.getElem_range,Function.comp];exact UZ (by have:i<Dj n:=(by grind);unfold Dj at this;omega)
def Z0{o}{a:Act}{w x l}{b f n cap m r:Nat}(E:o.op=.slice 40 x (some l) none none)(J:a.eval x=.slice (some ⟨b,f,none⟩) n cap)(B:a.eval l=.int .i64 (m:Int))(hr:m+r=n)(q:n<=cap)(A:0<r):
 (execOp a.eval o).run prog w=.ok (Next.value (.slice (some ⟨b,f+m,none⟩) r (cap-m))) w:=by
 have I:(Instr.sliceAt 40 (.slice (some ⟨b,f,none⟩) n cap) (some (.int .i64 (m:Int))) none none).run prog w=.ok (.slice (some ⟨b,f+m,none⟩) r (cap-m)) w:=by
  rw[run_sliceAt_slice _ _ _ _ _ _ Hn,run_slice_l _ _ _ _ _ Hn _ _ (by omega) (by omega),Ko];have hc:¬cap=m:=by omega
  have e:n-m=r:=by omega
  simp[Result.andThen,sliced,hc,Addr.add,e]
 unfold execOp;simp_all
def Ym(d l Bs E b q n cap)(O:1<=d)(hn:n<=100000)(af:n<=cap)(ag:cap<=maxLen)(J Jx:List (LO n)->World->Prop)(B)(hJ:AbidesFrom B J)(hY:∀pre x W,J pre W->pre.length<Dj n->YieldAt Fence.wide (d-1) prog l (Kf b q n x) W λ e W'=>
  (e=.returned (.bool true)/\J (pre++[x]) W'/\KC Bs E W W')\/(e=.returned (.bool false)/\Jx (pre++[x]) W'))(W)(a6:W.cell? ⟨Bs,0,none⟩=some (.slice (some ⟨b,q,none⟩) n cap))(a5:W.cell? ⟨E,0,none⟩=some (.int .i64 240))(h0:J [] W):
 CallsIn Fence.wide d prog 131 #[.func (.yield l) #[] #[],.pointer (some ⟨Bs,0,none⟩),.pointer (some ⟨E,0,none⟩)] W λ e W'=>(∃v,e=.returned v)/\
  ((∃ys,ys=Ci (Ex n) (Dj n)/\J ys W')\/(∃pre,(∃k,k<=Dj n/\pre=Ci (Ex n) k)/\Jx pre W')):=by
 obtain⟨m,hm⟩:=exN (Dj n);have HM:Hid (m=(n+239) / 240):=hm.symm;rw[hm]at hY |-
 clear hm;refine callsIn_of_wp func131 rfl trivial ?_ rfl;simp only[ntmps131,List.size_toArray,zh0,List.length_nil,Nat.reduceAdd,Nat.reduceSub,Array.replicate_succ,Array.replicate_zero,List.push_toArray,List.append_toArray,List.nil_append,List.cons_append]
 gi_wp2
 gi_loopw [4] (λ i wr=>∃k:Nat,k<=m/\i=.int .i64 ((240*k:Nat):Int)/\J (Ci (Ex n) k) wr/\KC Bs E W wr)
  (λ i _=>(n+240-(intOf i).toNat))
 case atStart=>exact⟨0,AI _,rfl,h0,KC.r _ _ _⟩
 case round=>
  obtain⟨k,hk,rfl,a4,a0⟩:=hrel;have Z:=a0.1 _ a6;have Y:=a0.2 _ a5;obtain⟨i,hi⟩:=exN (240*k);have A:=z6 hi;rw[hi];clear hi;by_cases am:i<n
  .have a9:((i:Nat):Int)<(n:Int):=by omega
   obtain⟨r,hr⟩:=exN (n-i);(have I:Hid (i+r=n/\n<=cap/\0<r):=by show _/\_/\_;omega);obtain⟨e,he⟩:∃e:Nat,(if (r:Int)<240 then(r:Int)else 240)=(e:Int):=⟨min r 240,by split<;>omega⟩
   have U:Hid (e=min 240 r/\0<e):=by show _/\_;have:=I.o;split at he<;>omega
   obtain⟨j,hj⟩:=exN (i+e);have HJ:=z6 hj;(have ad:IntKind.i64.wrap ((i:Int)+(e:Int))=(j:Int):=by rw[Bp _ (by omega) (by have:=U.o;omega)];omega);have a3:IntKind.i64.wrap ((i:Int)+240)=(i:Int)+240:=Bp _ (by omega) (by omega);(have aj:(i:Int)<=(j:Int):=by omega);(have ak:(j:Int)<=(cap:Int):=by have:=I.o;have:=U.o;omega);(have an:¬j=i:=by have:=U.o;omega);(have a1:k<m:=by have:=HM.o;have:=A.o;omega);have a7:=hJ _ wr wr.drew none a4 ⟨rfl,rfl,rfl,AE _,λ _ _ _=>rfl⟩ (λ r e=>by cases e);obtain⟨fn,ap,ab,ac,hy,hR⟩:=hY _ (Ex n k) wr.drew a7 (by rw[WX];exact a1);have a8:(Ex n k).1=k:=UZ (by have:=A.o;omega);have a2:Kf b q n (Ex n k)=#[.slice (some ⟨b,q+i,none⟩) (j-i) (j-i)]:=by
    (have h1:min 240 (n-240*k)=j-i:=by have:=A.o;have:=I.o;have:=U.o;omega);unfold Kf;rw[a8,h1,A.o]
   rw[a2]at hy;(have al:IntKind.i64.wrap ((i:Int)+240)=((240*(k+1):Nat):Int):=by rw[a3];have:=A.o;omega);clear hr hj a2 a3
   gi_wp2_with fail
   refine wpIn_wide.2 ?_;(have aa:prog.follows .mixedOrders=true:=by kernel_rfl);refine Dz (S:=λ X:World=>X.cell? ⟨Bs,0,none⟩=some (.slice (some ⟨b,q,none⟩) n cap)/\X.cell? ⟨E,0,none⟩=some (.int .i64 240)) (t:=6) aa ?_;have L:wr.drew.cell? ⟨Bs,0,none⟩=some (.slice (some ⟨b,q,none⟩) n cap)/\wr.drew.cell? ⟨E,0,none⟩=some (.int .i64 240):=⟨Z,Y⟩
   refine AO 0 (some 13) (.load 3 (.tmp 2)) (Value.int .i64 240) L ?_;simp only[zq];refine AO 1 (some 14) (.load 40 (.tmp 1)) (Value.slice (some ⟨b,q,none⟩) n cap) L ?_;simp only[zq];refine AO 2 (some 15) (.move (.tmp 4)) (Value.int .i64 (i:Int)) L ?_;simp only[zq];refine Be 3 (some 16) (.slice 40 (.tmp 14) (some (.tmp 15)) none none) (Value.slice (some ⟨b,q+i,none⟩) r (cap-i)) ?hy L ?_;case hy=>rintro o f X hz;exact Z0 f rfl rfl I.o.1 I.o.2.1 I.o.2.2
   simp only[zq];refine Be 4 (some 17) (.call { callee:=.builtin .len,args:=#[.tmp 16],argTypes:=#[40] }) (Value.int .i64 (r:Int)) (by rintro o f X hz;go_simp) L ?_;simp only[zq];refine Ae 5 (some 18) (.call { callee:=.builtin .min,args:=#[.tmp 13,.tmp 17],argTypes:=#[3,3] }) ?_;rintro o K O f hg T;refine ES (v:=Value.int .i64 (e:Int)) (by unfold execOp;simp only[f];go_simp;try(have:=U.o;omega)) ?_;rw[O];refine T _ _ (λ _=>L) ?_;clear f O hg T;simp only[zq];refine Ae 6 (some 5) (.assign (.tmp 18)) ?_;rintro o K O f hg T;refine ES (v:=Value.int .i64 (e:Int)) (by unfold execOp;simp only[f];go_simp) ?_;rw[O];refine T _ _ (λ e=>absurd rfl e) ?_;refine Cx (by kernel_rfl) ?_ _;clear f O hg T;simp only[zq];clear he
   gi_wp2_with fail
   refine hR.mono ?_;rintro x W3 (⟨rfl,hJ3,hk3⟩|⟨rfl,hJx3⟩)
   .have ae:=hk3.2 _ Y;have ao:=hk3.1 _ Z;clear Z Y
    gi_wp2_with fail
    go_roundw
    (case rel=>exact⟨k+1,by omega,rfl,by rw[QZ];exact hJ3,a0.t hk3⟩);case measure=>have ai:=A.o;simp[intOf];omega
   .gi_wp2_with fail
    refine bodyPost_ret (results_none rfl _ _ _) rfl ?_;exact⟨⟨_,rfl⟩,.inr ⟨_,⟨k+1,by omega,(QZ _ _).symm⟩,hJx3⟩⟩
  .have a1:k=m:=by have:=HM.o;have:=A.o;omega
   (have a9:¬((i:Nat):Int)<(n:Int):=by omega);subst a1
   gi_wp2_with fail
   go_end0
   exact⟨⟨_,rfl⟩,.inl a4⟩
def Yn{β:Type}(d l Bs f cap a)(J:List β->World->Prop)(W)(r:W.cell? ⟨Bs,0,none⟩=some (.slice a 0 cap))(q:J [] W):
 CallsIn Fence.wide d prog 131 #[.func (.yield l) #[] #[],.pointer (some ⟨Bs,0,none⟩),.pointer (some ⟨f,0,none⟩)] W λ e W'=>(∃v,e=.returned v)/\J [] W':=by
 refine callsIn_of_wp func131 rfl trivial ?_ rfl;simp only[ntmps131,List.size_toArray,zh0,List.length_nil,Nat.reduceAdd,Nat.reduceSub,Array.replicate_succ,Array.replicate_zero,List.push_toArray,List.append_toArray,List.nil_append,List.cons_append]
 gi_wp2
 gi_loopw [4] (λ i wr=>i=.int .i64 0/\wr.cell? ⟨Bs,0,none⟩=some (.slice a 0 cap)/\J [] wr) (λ _ _=>0)
 case atStart=>exact⟨rfl,r,q⟩
 case round=>
  obtain⟨rfl,B,A⟩:=hrel
  gi_wp2
  go_end0
  exact⟨⟨_,rfl⟩,A⟩
def Yp(d Bs f b q n cap a)(hd:1<=d)(hn:n<=100000)(w)(O:Bs<w.heap.size)(L:f<w.heap.size)(hc:w.cell? ⟨Bs,0,none⟩=some (.slice a n cap))(Y:w.cell? ⟨f,0,none⟩=some (.int .i64 240))(T:n=0\/(a=some ⟨b,q,none⟩/\n<=cap/\cap<=maxLen)):
 SeqStopsK Fence.wide d prog 131 #[.pointer (some ⟨Bs,0,none⟩),.pointer (some ⟨f,0,none⟩)] (Kf b q n) (KC Bs f) (λ ys=>ys=Ci (Ex n) (Dj n))
  (λ pre=>∃k,k<=Dj n/\pre=Ci (Ex n) k) (Dj n) w:=λ l J E W A U _ X r=>by
 have B:=(A.cell (p:=⟨Bs,0,none⟩) O).trans hc;have Z:=(A.cell (p:=⟨f,0,none⟩) L).trans Y;rcases T with rfl|⟨rfl,I,K⟩
 .exact(Yn d l Bs f cap a J W B r).mono λ e W' ⟨he,hj⟩=>⟨he,.inl ⟨[],rfl,hj⟩⟩
 .exact Ym d l Bs f b q n cap hd hn I K J E _ U X W B Z r
def Yo(d a f cap w):
 CallsIn Fence.wide d prog 102 #[.slice a f cap,.int .i64 240] w λ e w'=>e=.returned (.func (.func 131) #[] #[.pointer (some ⟨w.heap.size,0,none⟩),.pointer (some ⟨w.heap.size+1,0,none⟩)])/\w'=(w.alloc (.cells #[.slice a f cap] 40)).alloc (.cells #[.int .i64 240] 3):=by
 refine callsIn_of_wp func102 rfl trivial ?_ rfl;simp only[ntmps102,List.size_toArray,zh0,List.length_nil,Nat.reduceAdd,Nat.reduceSub,Array.replicate_succ,Array.replicate_zero,List.push_toArray,List.append_toArray,List.nil_append,List.cons_append]
 gi_wp2
 go_ret;simp
