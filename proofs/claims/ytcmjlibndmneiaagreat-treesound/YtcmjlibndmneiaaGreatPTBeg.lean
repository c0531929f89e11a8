import Derived.Test.YtcmjlibndmneiaaGreatPTChg
import Derived.Test.YtcmjlibndmneiaaGreatPTRow
import Derived.Test.YtcmjlibndmneiaaGreatPTRfM
set_option maxRecDepth 100000
set_option linter.all false
set_option maxHeartbeats 8000000
namespace Go.Proofs.YtcmjlibndmneiaaGreat
open Go.RowKit Go.Maps
noncomputable def as0(n:Nat):AS:={ V:=vwD (DS.new (50+n)),Q:=vwD (DS.new (50+n)),A:=Ah.new 50 (50+n),F:=λ _=>false }
structure Lw(U:Nat->Prop)(w:World)(b t c d M N:Nat)(a:AS)(root:Int)(lv:Value):Prop where
 bx:w.heap[b]?=some (.cells #[dp d,cp c,mp M,tp t,.int .i64 root,lv] 37 (0,0))
 tz:Tz U w t c d M N a
 nb:¬U b
section
variable {U:Nat->Prop} {w w':World} {b t c d M N:Nat} {a a':AS} {root:Int} {lv:Value}
def Lw.lt(h:Lw U w b t c d M N a root lv):b<w.heap.size:=(zd0.1 h.bx).1
def Lw.cl(h:Lw U w b t c d M N a root lv)(i:Nat):w.cell? ⟨b,i,none⟩=#[dp d,cp c,mp M,tp t,.int .i64 root,lv][i]?:=cell_of_row w b i _ _ (0,0) h.bx
def Lw.fz(h:Lw U w b t c d M N a root lv)(i:Nat):w.frozen? ⟨b,i,none⟩=false:=frozen_of_row w b i _ _ h.bx
def Lw.to(h:Lw U w b t c d M N a root lv)(H:TzTo U w w' t c d M N a'):∃u,Lw u w' b t c d M N a' root lv/\Tch U w w'/\∀k,u k->U k\/w.heap.size<=k:=by obtain⟨u,z,E,A⟩:=H;exact⟨u,⟨by rw[E.block b h.lt h.nb];exact h.bx,z,λ e=>(A b e).elim h.nb (λ e=>by have:=h.lt;omega)⟩,E,A⟩
def Lw.tch(h:Lw U w b t c d M N a root lv){S:Nat->Prop}(u:Tch S w w')(E:∀k,U k->¬S k)(A:¬S b):Lw U w' b t c d M N a root lv:=
 ⟨by rw[u.block b h.lt A];exact h.bx,h.tz.tch u E,h.nb⟩
def Lw.below(h:Lw U w b t c d M N a root lv)(u:Below w.heap.size w w'):Lw U w' b t c d M N a root lv:=h.tch (S:=λ _=>False) (Tch.of_below u) (λ _ _ e=>e) (λ e=>e)
end
def pkT(c:Int)(n:Nat):Nat:=(if c<0 then(-(c+1)).toNat else c.toNat) % n
def pkT_lt(c:Int){n:Nat}(h:0<n):pkT c n<n:=Nat.mod_lt _ h
def zrl9(c:Int)(n:Nat)(H:0<n)(hn:n<1000000)(E:(Lit.int .i64 c).wf=true)(w:World):
 Calls Tryz.prog 10 #[.int .i64 c,.int .i64 (n:Int)] w λ e w'=>e=.returned (.int .i64 (pkT c n:Int))/\w'=w:=by
 have I:-9223372036854775808<=c/\c<=9223372036854775807:=by simpa[Lit.wf,IntKind.min,IntKind.max,IntKind.signed,IntKind.bits]using E
 have T:((n:Int)==0)=false:=by rw[zl0];omega
 have Y:((n:Int) == -1)=false:=by rw[zl0];omega
 have a1:(0:Int)<(n:Int):=by omega
 obtain⟨O,Q⟩:=I;clear E;by_cases h:c<0
 .obtain⟨x,A⟩:∃x:Nat,-(c+1)=(x:Int):=⟨(-(c+1)).toNat,by omega⟩
  have u:Hid (pkT c n=x % n):=by show _=_;unfold pkT;rw[if_pos h,A];rfl
  have a0:c+1=-(x:Int):=by omega
  have K:Hid ((x:Int).tmod (n:Int)=((x % n:Nat):Int)):=rfl;have hm:((x % n:Nat):Int)<(n:Int):=by have:=Nat.mod_lt x H;omega
  have a2:(x:Int)<=9223372036854775807:=by omega
  rw[u.o]
  go_enter Tryz.func10,Tryz.ntmps10
  go_wp2_with fail;go_ret;exact⟨by first|rfl|simp,rfl⟩
 .obtain⟨x,A⟩:∃x:Nat,c=(x:Int):=⟨c.toNat,by omega⟩
  subst A;have u:Hid (pkT (x:Int) n=x % n):=by show _=_;unfold pkT;rw[if_neg h];rfl
  rw[u.o]
  go_enter Tryz.func10,Tryz.ntmps10
  go_wp2_with fail;go_ret;exact⟨by first|rfl|simp,rfl⟩
def zml9(n:Nat)(h1:1<=n)(h2:n<=4000)(w:World):
 Calls Tryz.prog 9 #[.int .i64 (n:Int)] w λ e w'=>∃U b t c d M,e=.returned (.pointer (some ⟨b,0,none⟩))/\Lw U w' b t c d M (50+n) (as0 n) 0 (.slice none 0 0)/\(∀k,U k->w.heap.size<=k)/\w.heap.size<=b/\Below w.heap.size w w':=by
 have Y:=wk_nat (x:=(50:Int)+(n:Int)) (t:=50+n) (by omega) (by omega);have a0:=zu9 (x:=(50:Int)+(n:Int)) (t:=50+n) (by omega) (by omega);have DN:=new_ok (50+n) w (by omega) (by omega);have a8:=za0 DN;have KN:Hid (∀(d:Nat)(W:World),Calls Tryz.prog 34 #[dp d,.int .i64 5] W λ e w'=>∃c X,e=.returned (.tuple #[cp c,.int .i64 0])/\Ch X w' c d (50+n) (CS.new 5)/\Below W.heap.size W w'/\∀k,X k->W.heap.size<=k):=λ d W=>zyc9 d (50+n) 5 W (by omega) (by omega) (by omega)
 have AN:Hid (∀(W:World),Calls Tryz.prog 35 #[.int .i64 50,.int .i64 ((50+n:Nat):Int)] W λ e w'=>∃M,e=.returned (.tuple #[mp M,.int .i64 0])/\Pm w' M (Ah.new 50 (50+n)) (λ k=>W.heap.size<=k/\k<w'.heap.size)/\Below W.heap.size W w'):=λ W=>zye9 50 (50+n) (by omega) (by omega) W;have an:Hid (n<=4000):=h2;have ab:Hid (IntKind.i64.wrap ((50:Int)+(n:Int))=((50+n:Nat):Int)/\wrap64 ((50:Int)+(n:Int))=((50+n:Nat):Int)):=⟨Y,a0⟩
 clear DN h1 h2
 go_enter Tryz.func9,Tryz.ntmps9
 go_wp2_with fail;clear Y a0;refine a8.o.mono ?_;rintro e W1 ⟨d,S,rfl,hd,b1,hS⟩;have KK:=KN.o d W1;have a9:=za0 KK;clear KK;have HD:=za0 hd;have a2:=za0 b1;have HS:=za0 hS;clear hd b1 hS a8;go_wp2_with fail;refine a9.o.mono ?_;rintro e H ⟨c,X,rfl,hc,b2,hX⟩;have AA:=AN.o H;have a7:=za0 AA;have HC:=za0 hc;have a3:=za0 b2;have HX:=za0 hX;have Y:=ab.o.1;have a0:=ab.o.2;clear AA hc b2 hX a9;go_wp2_with fail;clear Y a0;refine a7.o.mono ?_;rintro e W3 ⟨M,rfl,Q,b3⟩;have TN:=zyd9 c M (50+n) W3;have aa:=za0 TN;have HM:=za0 Q;have a4:=za0 b3;clear TN Q b3 a7;go_wp2_with fail;refine aa.o.mono ?_;rintro e A ⟨t,fb,rfl,a5,a6,ht,hf,E⟩
 obtain⟨I,O⟩:=exN (A.alloc (.cells #[.pointer (some ⟨d,0,none⟩),.pointer (some ⟨c,0,none⟩),.pointer (some ⟨M,0,none⟩),.pointer (some ⟨t,0,none⟩),.int .i64 0,.slice none 0 0] 37));have K:Below A.heap.size A I:=by rw[<-O];exact za9 _ _
 have af:I.heap[A.heap.size]?=some (.cells #[dp d,cp c,mp M,tp t,.int .i64 0,.slice none 0 0] 37 (0,0)):=by rw[<-O];exact heap_alloc_new A _
 have ah:Hid (∃U b t' c' d' M',(.returned (.pointer (some ⟨A.heap.size,0,none⟩)):Ending)=.returned (.pointer (some ⟨b,0,none⟩))/\Lw U I b t' c' d' M' (50+n) (as0 n) 0 (.slice none 0 0)/\(∀k,U k->w.heap.size<=k)/\w.heap.size<=b/\Below w.heap.size w I):=by
  have s1:=a2.o.size;have s2:=a3.o.size;have s3:=a4.o.size;have s4:=E.size;have s5:=K.size;have ac:=a2.o.trans (a3.o.mono a2.o.size);have ad:=ac.trans (a4.o.mono ac.size);have ae:=ad.trans (E.mono ad.size);have aj:=ae.trans (K.mono ae.size);have al:=HD.o.below a3.o;have cz:Cz X S H c d (50+n) (CS.new 5) (DS.new (50+n)):=⟨HC.o,al,by simp[DS.new],λ k u e=>by have:=HX.o k u;have:=HD.o.slt k e;omega⟩
  have ak:=cz.below a4.o;have xl:=HC.o;have a1:∀k,X k->k<H.heap.size:=λ k u=>by obtain⟨_,_,_,q⟩:=HC.o;exact q.xlt k u
  have T:=HD.o.slt;have ag:Coh (CS.new 5) (DS.new (50+n)):=λ m Q=>by simp[CS.new]at Q
  have am:TzAt (λ k=>w.heap.size<=k/\k<A.heap.size) A t c d M (50+n) (as0 n) fb X S (λ k=>H.heap.size<=k/\k<W3.heap.size) (CS.new 5) (DS.new (50+n)):={
   box:=a5
   cz:=ak.below E
   pm:=Pm.tch HM.o (S:=λ _=>False) (Tch.of_below E) (λ _ _ e=>e)
   fm:=a6
   xy:=λ k u e=>by have:=a1 k u;omega
   sy:=λ k u e=>by have:=T k u;omega
   nt:=⟨λ e=>by have:=a1 _ e;omega,λ e=>by have:=T _ e;omega,λ e=>by omega⟩
   nf:=⟨λ e=>by have:=a1 _ e;omega,λ e=>by have:=T _ e;omega,λ e=>by omega⟩
   ux:=λ k u=>by
    have ap:=(zd0.1 a5).1;have ao:=a6.lt;rcases u with e|e|e|e|e
    .have:=a1 k e;have:=HX.o k e;exact⟨by omega,by omega⟩
    .have:=T k e;have:=HS.o k e;exact⟨by omega,by omega⟩
    .exact⟨by omega,by omega⟩
    .exact⟨by omega,by omega⟩
    .exact⟨by omega,by omega⟩
   ul:=λ k u=>u.2
   ok:=⟨rfl,by show 50+(List.replicate _ _).length=_;rw[zr0];omega,λ x hx=>(by cases hx),by
    funext y;exact(zbz9 ag (.inl (by simp[CS.new]))).symm,rfl,ag,λ _=>rfl,rfl⟩ }
  exact⟨_,A.heap.size,t,c,d,M,rfl,⟨af,(show Tz _ A t c d M (50+n) (as0 n)from⟨_,_,_,_,_,_,am⟩).below K,λ e=>by omega⟩,λ k u=>u.1,by omega,aj⟩
 have ai:=za0 O;clear a5 a6 ht hf E K af O aa;go_wp2_with fail;try rw[ai.o]
 go_ret;exact ah.o
end Go.Proofs.YtcmjlibndmneiaaGreat
namespace Go.Proofs.YtcmjlibndmneiaaGreat
open Go.RowKit Go.Maps Pl
def zee9(l:List E2){k:Nat}(h:k<l.length):l.take (k+1)=l.take k++[l.getD k eZ]:=take_succ' eZ l k h
section
variable {ops:Array Oper} {rest:List Oper} {o:Oper} {a:Act} {Q:Exit->Act->World->Prop}
def zas9(w:World)(E:o.guard=none)(s x:Operand)(H:o.op=.call { callee:=.builtin .append,args:=#[s,x],argTypes:=#[35,35] })
 (B:Nat) (v:Value) (ps:List En) (hs:a.eval s=v) (hown:OwE B w v ps) (g:Nat) (p:En) (hx:a.eval x=.slice (some ⟨g,0,none⟩) 1 1) (h0:w.cell? ⟨g,0,none⟩=some (.string p.1)) (h1:w.cell? ⟨g,1,none⟩=some (.string p.2)) (hl:ps.length<=1000000000) (hB:B<=w.heap.size)
 (h:∀v' u,OwE B u v' (ps++[p])->Tch (λ k=>v.ownBlock=some k) w u->Fsh w v v'->wpList Tryz.prog ops Q rest (a.put o.dst v') u):wpList Tryz.prog ops Q (o::rest) a w:=by
 refine wpList_plain E λ K A=>?_;exact zwg9 s x H B v ps hs hown g p hx h0 h1 hl hB (λ v' u I O T=>A _ _ (h v' u I O T))
end
section
variable {w W W':World} {b t c d M N:Nat} {a a':AS} {v v':Value} {own own':List E2} {U:Nat->Prop}
end
