import Derived.Test.YtcmjlibndmneiaaGreatPTDoP
import Derived.Test.YtcmjlibndmneiaaGreatPTArgD
import Derived.Test.YtcmjlibndmneiaaGreatPTBlk
import Derived.Test.YtcmjlibndmneiaaGreatPTRfC
set_option maxRecDepth 100000
set_option linter.all false
set_option maxHeartbeats 8000000
namespace Go.Proofs.YtcmjlibndmneiaaGreat
open Go.RowKit Go.Maps Pl
def TmS(w:World)(b t c d M N:Nat)(a:AS)(root:Int)(lv:Value)(L:List E2)(W:World):Prop:=
 ∃U,Lw U W b t c d M N a root lv/\Below w.heap.size w W/\(∀k,U k->w.heap.size<=k)/\w.heap.size<=b/\RdE W lv L/\(∀j,lv.ownBlock=some j->¬U j/\j≠b/\j<W.heap.size/\w.heap.size<=j)/\Kp a root L
section
variable {w W W':World} {b t c d M N:Nat} {a:AS} {root:Int} {lv:Value} {L:List E2}
def TmS.bl(h:TmS w b t c d M N a root lv L W):Below w.heap.size w W:=by obtain⟨_,_,q,_⟩:=h;exact q
def TmS.rd(h:TmS w b t c d M N a root lv L W):RdE W lv L:=by obtain⟨_,_,_,_,_,q,_⟩:=h;exact q
def TmS.kp(h:TmS w b t c d M N a root lv L W):Kp a root L:=by obtain⟨_,_,_,_,_,_,_,q⟩:=h;exact q
def TmS.cl(h:TmS w b t c d M N a root lv L W)(i:Nat):W.cell? ⟨b,i,none⟩=#[dp d,cp c,mp M,tp t,.int .i64 root,lv][i]?:=by obtain⟨_,q,_⟩:=h;exact q.cl i
def TmS.below(h:TmS w b t c d M N a root lv L W)(A:Below W.heap.size W W'):TmS w b t c d M N a root lv L W':=by
 obtain⟨U,I,H,K,O,Q,u,T⟩:=h
 have Y:=Tch.of_below (S:=λ _=>False) A
 exact⟨U,I.below A,H.trans (A.mono H.size),K,O,Q.tch Y (λ _ _ e=>e),λ j E=>⟨(u j E).1,(u j E).2.1,zn1 (u j E).2.2.1 A.size,(u j E).2.2.2⟩,T⟩
def TmS.drew(h:TmS w b t c d M N a root lv L W):TmS w b t c d M N a root lv L W.drew:=h.below (Below.refl _ _).drew
def TmS.lw{f:FuncId}{args:Array Value}{P:Ending->World->Prop}(h:TmS w b t c d M N a root lv L W)(hc:∀U,Lw U W b t c d M N a root lv->(∀j,lv.ownBlock=some j->¬U j/\j≠b/\j<W.heap.size)->Calls Tryz.prog f args W λ e w'=>P e w'/\LwTo U W w' b t c d M N a root lv):
 Calls Tryz.prog f args W λ e w'=>P e w'/\TmS w b t c d M N a root lv L w':=by
 obtain⟨U,Y,K,O,h4,h5,A,h7⟩:=h
 refine(hc U Y (λ j u=>⟨(A j u).1,(A j u).2.1,(A j u).2.2.1⟩)).mono ?_
 rintro e w' ⟨hp,Q,T,E,I⟩
 have a0:=K.size
 refine⟨hp,Q,T,K.trans (E.below a0 (λ k H=>O k H)),λ k H=>(I k H).elim (O k) (λ e=>by omega),h4,h5.tch E (λ j u=>(A j u).1),λ j u=>?_,h7⟩
 obtain⟨q1,q2,q3,q4⟩:=A j u
 exact⟨λ e=>(I j e).elim q1 (λ e=>by omega),q2,zn1 q3 E.size,q4⟩
def TmS.calls{f:FuncId}{args:Array Value}{P:Ending->Prop}(h:TmS w b t c d M N a root lv L W)(A:∀U,Tz U W t c d M N a->Calls Tryz.prog f args W λ e w'=>P e/\TzTo U W w' t c d M N a):
 Calls Tryz.prog f args W λ e w'=>P e/\TmS w b t c d M N a root lv L w':=
 h.lw (P:=λ e _=>P e) (λ U u _=>(A U u.tz).mono (λ e w' q=>⟨q.1,u.to q.2⟩))
def TmS.does(h:TmS w b t c d M N a root lv L W)(kd:Int)(key val:ByteArray)(A:(Lit.int .i64 kd).wf=true)(a0:key.size<=4611686018427387904/\val.size<=4611686018427387904):
 Calls Tryz.prog 11 #[.pointer (some ⟨b,0,none⟩),.agg #[.int .i64 kd,.string key,.string val],.slice none 0 0] W λ e w'=>e=.returned (.bool true)/\∃a' K I H,TmS w b t c d M N a' K I H w':=by
 obtain⟨U,h1,O,Q,T,h5,E,h7⟩:=h
 refine(zth9 kd key val W h1 h5 (λ j u=>⟨(E j u).1,(E j u).2.1,(E j u).2.2.1⟩) h7 A a0).mono ?_
 rintro e w' ⟨rfl,Y,a',K,I,H,g1,g2,g3,g4,g5,g6,g7⟩
 have a1:=O.size
 refine⟨rfl,a',K,I,H,Y,g1,O.trans (g2.below a1 (λ k A=>A.elim (Q k) (λ e=>by rw[e];exact T))),λ k A=>(g3 k A).elim (Q k) (λ e=>by omega),T,g4,λ j u=>?_,g7⟩
 obtain⟨q1,q2,q3⟩:=g5 j u
 exact⟨q1,q2,q3,(g6 j u).elim (λ e=>(E j e).2.2.2) (λ e=>by omega)⟩
end
def kpB0(n:Nat)(A:1<=n)(E:n<=200):Kp (as0 n) 0 []:=
 ⟨0,[],⟨rfl,rfl,rfl⟩,λ y=>by simp,λ y u=>(by cases u),λ e=>(by cases e),⟨by unfold Ao as0 Ah.new;simp;omega,by unfold as0 Ah.new;simp,rfl⟩,by unfold as0 Ah.new;simp;omega⟩
def treeMap_walk(bn:Int)(dv:Value)(zs:List Dt)(from_ tx:ByteArray)(most:Int)(w:World)(b0:(Lit.int .i64 bn).wf=true)(hd:RdDt w dv zs)(bi:zs.length<=4611686018427387904)(b5:∀e∈zs,e.ok)(b3:(Lit.int .i64 most).wf=true):
 Calls Tryz.prog 3 #[.int .i64 bn,dv,.string from_,.string tx,.int .i64 most] w λ e w'=>e=.returned (.bool true)/\Below w.heap.size w w':=by
 obtain⟨da,dc,bh,l1,l2,l3⟩:∃a c,dv=.slice a zs.length c/\zs.length<=c/\c<=maxLen/\(a=none->c=0):=by obtain⟨a,c,e,q1,Y,q3,_⟩:=id hd;exact⟨a,c,e,q1,Y,q3⟩
 unfold maxLen at l2
 subst bh
 obtain⟨L,hL⟩:=exH zs.length
 have ae:=za0 hd
 rw[hL.o]at bi l1 ae |-
 have bc:=za0 b5
 have b2:-9223372036854775808<=most/\most<=9223372036854775807:=by simpa[Lit.wf,IntKind.min,IntKind.max,IntKind.signed,IntKind.bits]using b3
 have HM:=za0 b2
 have PK:=zjb9 bn 200 (by decide) (by decide) b0 w
 rw[show((200:Nat):Int)=200 from rfl]at PK
 obtain⟨pk,ai⟩:=exN (pkT bn 200)
 have bo:pk<200:=by rw[<-ai];exact pkT_lt _ (by decide)
 rw[ai]at PK
 have v1:=wk_nat (x:=1+(pk:Int)) (t:=1+pk) (by omega) (by omega)
 have v2:=zp9 (x:=1+(pk:Int)) (t:=1+pk) (by clear v1;omega) (by clear v1;omega)
 have ao:=za0 PK
 obtain⟨n,hn⟩:=exN (1+pk)
 have ah:1<=n/\n<=200:=by omega
 rw[hn]at v1 v2
 have al:=za0 (zlh9 n ah.1 (by omega) w)
 have HN:=za0 ah
 have bk:(L:Int)<=9223372036854775807:=by omega
 clear PK ai hd b5 b3 b2 b0 l3 hn ah
 go_enter Tryz.func3,Tryz.ntmps3
 go_wp2_with fail
 refine ao.o.mono ?_
 rintro e w' ⟨rfl,e9⟩
 obtain rfl:w=w':=e9.symm
 go_wp2_with fail
 clear v1 v2
 refine al.o.mono ?_
 rintro e W1 ⟨U1,b,t,c,d,M,rfl,ba,u1,av,aw⟩
 have au:Hid (∃a x lv A,TmS w b t c d M (50+n) a x lv A W1):=⟨as0 n,0,.slice none 0 0,[],U1,ba,aw,u1,av,(owE_nil 0 W1).rd,λ j hj=>(by cases hj),kpB0 n HN.o.1 HN.o.2⟩
 clear ba u1 av aw al ao
 go_wp2_with fail
 go_loopw [12] (λ iv wr=>∃i:Nat,i<=L/\iv=.int .i64 (i:Int)/\Hid (∃a x lv A,TmS w b t c d M (50+n) a x lv A wr)) (λ iv _=>L-(intOf iv).toNat)
 case atStart=>exact⟨0,zn7 _,rfl,au⟩
 case round=>
  clear au
  obtain⟨i,bm,rfl,HI⟩:=hrel
  by_cases h1:i<L
  .have d1:decide ((i:Int)<(L:Int))=true:=by rw[zm0];omega
   have bf:=zo1 h1
   obtain⟨a,x,lv,A,hO⟩:=HI.o
   obtain⟨lb,lo,rfl,ck,cv,cw⟩:=(ae.o.below hO.bl).at (i:=i) (by rw[hL.o];exact h1)
   obtain⟨dd,a9⟩:=exH (zs.getD i dZ)
   rw[a9.o]at ck cv cw
   have bg:dd.ok:=by
    rw[<-a9.o]
    exact bc.o _ (zaz9 (by rw[hL.o];exact h1))
   obtain⟨kd,kx,ky⟩:=dd
   obtain⟨q1,Y,q3⟩:=bg
   have ab:Hid (∀W,Below w.heap.size w W->W.cell? ⟨lb,lo+i*3+1,none⟩=some (.string kx)):=λ W hb=>by
    obtain⟨bp,bq,e,_,c2,_⟩:=(ae.o.below hb).at (i:=i) (by rw[hL.o];exact h1)
    cases e
    rw[a9.o]at c2
    exact c2
   have DC:=hO.does kd kx ky q1 ⟨zn2 Y (by decide),zn2 q3 (by decide)⟩
   have i0:(0:Int)<=(i:Int):=by omega
   have i1:(i:Int)<(L:Int):=by omega
   have v1:=wk_nat (x:=(i:Int)+1) (t:=i+1) (by omega) (by omega)
   have v2:=zp9 (x:=(i:Int)+1) (t:=i+1) (by clear v1;omega) (by clear v1;omega)
   have bb:=za0 h1
   have am:=za0 DC
   clear DC HI hO a9 q1 Y q3
   go_wp2_with fail
   refine am.o.mono ?_
   rintro e W2 ⟨rfl,a2,x2,a6,L3,h2⟩
   have a3:=za0 h2
   clear h2 am ck cv cw
   obtain⟨bj,B,kk⟩:=a3.o.kp
   have hx:=kk.xr
   have hg:=kk.get kx
   obtain⟨fs,fb,af⟩:∃p q,fndE kx L3=(p,q):=⟨_,_,rfl⟩
   have GC:=a3.o.drew.calls (λ U z=>zfc9 x2 hx kx _ z)
   rw[hg.1,hg.2,af]at GC
   have ac:=za0 GC
   have RG:=λ W (h:RdE W a6 L3)=>zkk9 a6 L3 kx W h (by have:=kk.len.2;omega)
   rw[af]at RG
   have ap:=za0 RG
   have K:W2.drew.cell? ⟨b,3,none⟩=some (tp t)/\W2.drew.cell? ⟨b,4,none⟩=some (.int .i64 x2)/\W2.drew.cell? ⟨lb,lo+i*3+1,none⟩=some (.string kx):=⟨a3.o.drew.cl 3,a3.o.drew.cl 4,ab.o _ a3.o.drew.bl⟩
   have T:Hid (∀u,TmS w b t c d M (50+n) a2 x2 a6 L3 u->u.cell? ⟨b,3,none⟩=some (tp t)/\u.cell? ⟨b,4,none⟩=some (.int .i64 x2)/\u.cell? ⟨lb,lo+i*3+1,none⟩=some (.string kx)):=λ u E=>⟨E.cl 3,E.cl 4,ab.o _ E.bl⟩
   clear GC RG hx hg af kk
   unfold tp at K T ac
   go_wp2_with fail
   go_region_held3 (λ w'=>w'.cell? ⟨b,3,none⟩=some (.pointer (some ⟨t,0,none⟩))/\w'.cell? ⟨b,4,none⟩=some (.int .i64 x2)/\w'.cell? ⟨lb,lo+i*3+1,none⟩=some (.string kx)) (first|go_keep|exact a1)
    (first
     | (go_at_call 12;refine ac.o.mono ?_;rintro e u ⟨rfl,E⟩;have a1:=T.o u E;have I:=za0 E;clear E))
   clear K a1 T ac
   have K:u.drew.cell? ⟨b,5,none⟩=some a6/\u.drew.cell? ⟨lb,lo+i*3+1,none⟩=some (.string kx):=⟨I.o.drew.cl 5,ab.o _ I.o.drew.bl⟩
   have a5:=za0 (ap.o u.drew I.o.drew.rd)
   clear ap
   go_wp2_with fail
   go_region_held3 (λ w'=>w'.cell? ⟨b,5,none⟩=some a6/\w'.cell? ⟨lb,lo+i*3+1,none⟩=some (.string kx)) (first|go_keep|exact K)
    (first
     | (go_at_call 13;refine a5.o.mono ?_;rintro e W4 ⟨rfl,rfl⟩))
   clear K a5
   have an:Hid (∃a x lv A,TmS w b t c d M (50+n) a x lv A u.drew):=⟨_,_,_,_,I.o.drew⟩
   have ds:(!(fs.toList==fs.toList))=false:=by simp
   have db:(!(fb==fb))=false:=by simp
   clear I a3
   go_wp2_with fail
   clear v1 v2
   have h1:=bb.o
   first
    | exact⟨⟨i+1,by omega,by rfl,an⟩,by simp[intOf];omega⟩
    | (go_roundw
       case rel=>exact⟨i+1,by omega,by rfl,an⟩
       case measure=>simp[intOf];omega)
  .have d1:decide ((i:Int)<(L:Int))=false:=by rw[zn4];omega
   have bf:=zm1 h1
   obtain⟨a,x,lv,A,hO⟩:=HI.o
   obtain⟨bj,B,kk⟩:=hO.kp
   have hx:=kk.xr
   have b1:=kk.len
   obtain⟨O,Q,rfl,r1,r2,r3⟩:=hO.rd.len
   obtain⟨H,b9⟩:=exH A.length
   have hz:((x==0)==((H:Int)==0))=true:=by
    have q:=kk.tr.none_iff (zn6 _)
    have Y:x=0↔H=0:=by rw[q,<-b9.o,List.length_eq_zero_iff]
    by_cases e:x=0
    .have:=Y.1 e;subst e;subst this;rfl
    .have E:¬H=0:=λ t=>e (Y.2 t)
     have h4:(x==0)=false:=by rw[zl0];exact e
     have h5:((H:Int)==0)=false:=by rw[zl0];omega
     rw[h4,h5];rfl
   rw[b9.o]at hO r1
   have HO:=za0 hO
   have HX:=za0 hx
   have a8:=za0 b1
   have a7:=za0 kk
   have be:=za0 hz
   clear HI hx b1 kk hO hz r3
   have K:wr.drew.cell? ⟨b,3,none⟩=some (tp t)/\wr.drew.cell? ⟨b,4,none⟩=some (.int .i64 x):=⟨HO.o.drew.cl 3,HO.o.drew.cl 4⟩
   have T:Hid (∀u,TmS w b t c d M (50+n) a x (.slice O H Q) A u->u.cell? ⟨b,3,none⟩=some (tp t)/\u.cell? ⟨b,4,none⟩=some (.int .i64 x)):=λ u E=>⟨E.cl 3,E.cl 4⟩
   by_cases hm:most<0
   .have SC:=HO.o.drew.lw (P:=λ e _=>∃v,e=.returned (.tuple #[v,.int .i64 1])) (f:=14) (args:=#[tp t,.int .i64 x,.string from_,.string tx,.int .i64 most]) (λ U hl _=>(zqo9 x from_ tx most hm _ hl.tz).mono (λ e w' ⟨v,U',q1,_,Y,q3,q4,_⟩=>⟨⟨v,q1⟩,hl.to ⟨U',Y,q3,q4⟩⟩))
    have a0:=za0 SC
    clear SC
    unfold tp at K T a0
    go_wp2_with fail
    go_region_held3 (λ w'=>w'.cell? ⟨b,3,none⟩=some (.pointer (some ⟨t,0,none⟩))/\w'.cell? ⟨b,4,none⟩=some (.int .i64 x)) (first|go_keep|exact a1)
     (first
      | (go_at_call 14;refine a0.o.mono ?_;rintro e u ⟨⟨v3,rfl⟩,E⟩;have a1:=T.o u E;have I:=za0 E.bl;clear E))
    have a4:=za0 (zgk9 u)
    clear K a1 T a0 HO
    go_wp2_with fail
    refine a4.o.mono ?_
    rintro e W7 ⟨rfl,b7⟩
    have aa:=za0 (I.o.trans (b7.mono I.o.size))
    clear b7 a4
    go_wp2_with fail
    go_ret
    exact⟨by first|rfl|simp,aa.o⟩
   .obtain⟨m,rfl⟩:∃m:Nat,most=(m:Int):=⟨most.toNat,by omega⟩
    have aj:=zsi9 (zn6 _) a7.o.tr a7.o.nd from_ tx m
    have b6:scanF a x from_ tx m=(scnE from_ tx m A,0):=by unfold scanF;rw[if_neg (by rw[aj.1];decide),aj.2]
    have ag:m<=9223372036854775807:=by have:=HM.o.2;omega
    have SC:=HO.o.drew.lw (P:=λ e w'=>∃O H Q,e=.returned (.tuple #[.slice O H Q,.int .i64 0])/\RdE w' (.slice O H Q) (scnE from_ tx m A)) (f:=14) (args:=#[tp t,.int .i64 x,.string from_,.string tx,.int .i64 (m:Int)]) (λ U hl _=>(zjj9 x HX.o from_ tx m ag _ hl.tz).mono (λ e w' ⟨v,U',q1,q0,Y,q3,q4,_⟩=>by
     rw[b6]at q0 q1
     obtain⟨sa,sc,rfl,_⟩:=q0.rd.len
     exact⟨⟨sa,_,sc,q1,q0.rd⟩,hl.to ⟨U',Y,q3,q4⟩⟩))
    have a0:=za0 SC
    have ak:(scnE from_ tx m A).length<=1000000:=by
     unfold scnE
     rw[zg0]
     have:=List.length_filter_le (inR from_ tx) A
     have:=a8.o.2
     omega
    obtain⟨R,hR⟩:=exN (scnE from_ tx m A)
    have RS:=λ W h=>zkm9 (.slice O H Q) A from_ tx m W h (by have:=a8.o.2;omega) ag
    rw[hR]at RS ak
    have aq:=za0 RS
    have bd:=za0 ak
    rw[hR]at a0
    clear SC aj b6 RS ak ag hR
    have d0:decide ((m:Int)<0)=false:=by rw[zn4];omega
    unfold tp at K T a0
    go_wp2_with fail
    go_region_held3 (λ w'=>w'.cell? ⟨b,3,none⟩=some (.pointer (some ⟨t,0,none⟩))/\w'.cell? ⟨b,4,none⟩=some (.int .i64 x)) (first|go_keep|exact a1)
     (first
      | (go_at_call 14;refine a0.o.mono ?_;rintro e u ⟨⟨sa,sn,sc,rfl,r3⟩,E⟩;have a1:=T.o u E;have I:=za0 (And.intro E r3);clear E r3))
    have c5:=I.o.1.cl 5
    have R3:=aq.o u I.o.1.rd
    have a5:=za0 R3
    clear K a1 T a0 HO aq R3
    go_wp2_with fail
    refine a5.o.mono ?_
    rintro e W4 ⟨v4,rfl,o4,b4⟩
    obtain⟨br,bs,rfl⟩:=o4.long
    have SM:=zdn9 _ _ R R W4 (I.o.2.tch (Tch.of_below (S:=λ _=>False) b4) (λ _ _ e=>e)) o4.rd (by have:=bd.o;omega)
    rw[zo1 (rfl:R=R)]at SM
    have H4:=za0 (I.o.1.below b4)
    have ar:=za0 SM
    clear SM I a5 o4 b4 c5
    go_wp2_with fail
    refine ar.o.mono ?_
    rintro e W5 ⟨rfl,q5,rfl⟩
    have H5:=za0 (H4.o.below (belowN (zn6 _) q5))
    clear H4 ar
    have hh:hasF a x A=true:=by
     have q:=zsi9 (zn6 _) a7.o.tr a7.o.nd eS eS 1073741824
     have Y:scanF a x eS eS 1073741824=(A,0):=by
      unfold scanF
      rw[if_neg (by rw[q.1];decide),q.2]
      have e:scnE eS eS 1073741824 A=A:=by
       unfold scnE
       rw[zdb9 (λ e _=>?_),zn5 (by have:=a8.o.2;omega)]
       unfold inR
       rw[show lts e.1 eS=false from Ke.none e.1,show eqs eS eS=true from eqsP.2 rfl]
       rfl
      rw[e]
     unfold hasF
     rw[Y]
     simp
    have b8:(scanF a x eS eS 1073741824).1.length<=1000000000:=by
     unfold hasF at hh
     simp only[Bool.and_eq_true,zp1]at hh
     rw[hh.2]
     have:=a8.o.2
     omega
    have HC:=H5.o.drew.lw (P:=λ e _=>e=.returned (.bool true)) (f:=18) (args:=#[.pointer (some ⟨b,0,none⟩),.int .i64 x,.slice O H Q]) (λ U hl hz=>(zws9 x HX.o (.slice O H Q) A _ hl H5.o.drew.rd (λ j hj=>(hz j hj).1) b8).mono (λ e w' q=>⟨by rw[q.1,hh],q.2⟩))
    have ad:=za0 HC
    have K:(W4.drewN q5).drew.cell? ⟨b,4,none⟩=some (.int .i64 x)/\(W4.drewN q5).drew.cell? ⟨b,5,none⟩=some (.slice O H Q):=⟨H5.o.drew.cl 4,H5.o.drew.cl 5⟩
    have T:Hid (∀W6,TmS w b t c d M (50+n) a x (.slice O H Q) A W6->W6.cell? ⟨b,4,none⟩=some (.int .i64 x)/\W6.cell? ⟨b,5,none⟩=some (.slice O H Q)):=λ W6 h6=>⟨h6.cl 4,h6.cl 5⟩
    obtain⟨WX,az⟩:=exN (W4.drewN q5)
    rw[az]at H5 ad K |-
    clear hh b8 HC az
    go_wp2_with fail
    go_region_held3 (λ w'=>w'.cell? ⟨b,4,none⟩=some (.int .i64 x)/\w'.cell? ⟨b,5,none⟩=some (.slice O H Q)) (first|go_keep|exact ax)
     (first
      | (go_at_call 18;refine ad.o.mono ?_;rintro e W6 ⟨rfl,h6⟩;have ax:=T.o W6 h6;have H6:=za0 h6;clear h6))
    have K:W6.drew.cell? ⟨b,4,none⟩=some (.int .i64 x)/\W6.drew.cell? ⟨b,5,none⟩=some (.slice O H Q):=⟨H6.o.drew.cl 4,H6.o.drew.cl 5⟩
    have a4:=za0 (zgk9 W6.drew)
    have hz:=be.o
    clear ax T ad H5
    go_wp2_with fail
    go_region_held3 (λ w'=>w'.cell? ⟨b,4,none⟩=some (.int .i64 x)/\w'.cell? ⟨b,5,none⟩=some (.slice O H Q)) (first|go_keep|exact ay)
     (first
      | (go_at_call 15;refine a4.o.mono ?_;rintro e W7 ⟨rfl,b7⟩;have h7:=H6.o.drew.below b7;have ay:W7.cell? ⟨b,4,none⟩=some (.int .i64 x)/\W7.cell? ⟨b,5,none⟩=some (.slice O H Q):=⟨h7.cl 4,h7.cl 5⟩;have aa:=za0 h7.bl;clear b7 h7))
    clear K ay hz a4
    go_wp2_with fail
    go_ret
    exact⟨by first|rfl|simp,aa.o⟩
end Go.Proofs.YtcmjlibndmneiaaGreat
namespace Go.Proofs.YtcmjlibndmneiaaGreat
def zyq9:True:=trivial
