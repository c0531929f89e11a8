import Derived.Test.YtcmjlibndmneiaaGreatPTDoP
import Derived.Test.YtcmjlibndmneiaaGreatPTArgD
import Derived.Test.YtcmjlibndmneiaaGreatPTBlk
set_option maxRecDepth 100000
set_option linter.all false
set_option maxHeartbeats 8000000
namespace Go.Proofs.YtcmjlibndmneiaaGreat
open Go.RowKit Go.Maps Pl
section
variable {a1 a':AS} {x:Int} {L:List E2} {lev:Nat} {B:List Int}
def inw_kp(E:KpB a1 x L lev B)(u:Inw a1 a'):KpB a' x L lev B:=
 E.mv (λ y A=>u.vl y (by rw[E.tk y A];decide)) (λ y A=>u.ol y (by
  cases e:a'.F y with
  | false=>rfl
  | true=>have:=(u.nw y e).2;rw[E.tk y A]at this;cases this)) u.lo u.ln (λ _=>u.sa)
def zuc9{a:AS}(h:a.A.as=0)(hF:∀y,a.F y=false):Inw a a:=⟨rfl,rfl,h,λ x u=>(by rw[hF]at u;cases u),λ _ _=>rfl,λ _ _=>rfl⟩
def zhl9(N:Nat)(F:Int->Bool):(freshL N F).Nodup:=(zcp9 N F).imp (λ h e=>by omega)
def zyq9{N:Nat}(H:KpB a1 x L lev B)(E:Inw a1 a')(hN:∀y,a'.F y=true->50<=y/\y<(N:Int)):
 a'.A.L.count 0+(freshL N a'.F).length=a1.A.L.count 0/\(a'.gos (freshL N a'.F)).A=a1.A/\KpB (a'.gos (freshL N a'.F)) x L lev B/\freshL N (a'.gos (freshL N a'.F)).F=[]:=by
 have K:=E.undo hN H.am.sa
 have tk:∀y∈freshL N a'.F,Ah.stv a'.A y=1:=λ y u=>(E.nw y (zad9.1 u).2.2).1
 obtain⟨g1,Q,T,Y,g5⟩:=gos_A (freshL N a'.F) a' (zhl9 N _) tk
 have O:=inw_kp H E
 refine⟨by rw[<-Q,K],K,O.mv (λ y u=>?_) (λ y u=>?_) T Y (λ e=>g5.trans e),List.eq_nil_iff_forall_not_mem.2 (λ y u=>?_)⟩
 .rw[(gos_V _ a' y).1,if_neg]
  intro hf
  have:=(E.nw y (zad9.1 hf).2.2).2
  rw[H.tk y u]at this;cases this
 .rw[K,O.tk y u,H.tk y u]
 .obtain⟨q1,q2,I⟩:=zad9.1 u
  rw[gos_FP]at I
  split at I
  .cases I
  .rename_i hn;exact hn (zad9.2 ⟨q1,q2,I⟩)
end
def treeUndo_walk(dv:Value)(zs:List Dt)(mv:Value)(ys:List Dt)(w:World)(hd:RdDt w dv zs)(c7:zs.length<=4611686018427387904)(bn:∀e∈zs,e.ok)(he:RdDt w mv ys)(c9:ys.length<=4611686018427387904)(bo:∀e∈ys,e.ok):
 Calls Tryz.prog 5 #[dv,mv] w λ e w'=>e=.returned (.bool true)/\Below w.heap.size w w':=by
 obtain⟨da,dc,c5,l1,l2,l3⟩:∃a c,dv=.slice a zs.length c/\zs.length<=c/\c<=maxLen/\(a=none->c=0):=by obtain⟨a,c,e,q1,q2,q3,_⟩:=id hd;exact⟨a,c,e,q1,q2,q3⟩
 obtain⟨ea,ec,c6,m1,m2,m3⟩:∃a c,mv=.slice a ys.length c/\ys.length<=c/\c<=maxLen/\(a=none->c=0):=by obtain⟨a,c,e,q1,q2,q3,_⟩:=id he;exact⟨a,c,e,q1,q2,q3⟩
 unfold maxLen at l2 m2
 subst c5 c6
 obtain⟨L,hL⟩:=exH zs.length
 obtain⟨E,hE⟩:=exH ys.length
 have bc:=za0 hd
 have an:=za0 he
 rw[hL.o]at c7 l1 bc |-
 rw[hE.o]at c9 m1 an |-
 have bw:=za0 bn
 have bx:=za0 bo
 have BG:=zlm9 300 (by decide) (by decide) w
 rw[show((300:Nat):Int)=300 from rfl]at BG
 have az:=za0 BG
 have cg:(L:Int)<=9223372036854775807:=by omega
 have cf:(E:Int)<=9223372036854775807:=by omega
 clear BG hd bn he bo l3 m3
 go_enter Tryz.func5,Tryz.ntmps5
 go_wp2_with fail
 refine az.o.mono ?_
 rintro e W1 ⟨U1,b,t,c,d,M,rfl,bq,u1,be,bf⟩
 have ap:Hid (∃a x T u,TmS w b t c d M 350 a x T u W1):=⟨as0 300,0,.slice none 0 0,[],U1,bq,bf,u1,be,(owE_nil 0 W1).rd,λ j hj=>(by cases hj),kpB0 300 (by decide) (by decide)⟩
 clear bq u1 be bf az
 go_upto_block 0 with fail
 go_cut [6] (λ _ wx=>Hid (∃a x T u,TmS w b t c d M 350 a x T u wx))
 case first=>
  go_wp2_with fail
  go_loopw [6] (λ iv wr=>∃i:Nat,i<=L/\iv=.int .i64 (i:Int)/\Hid (∃a x T u,TmS w b t c d M 350 a x T u wr)) (λ iv _=>L-(intOf iv).toNat)
  case atStart=>exact⟨0,zn7 _,rfl,ap⟩
  case round=>
   clear ap
   obtain⟨i,ci,rfl,HI⟩:=hrel
   by_cases I:i<L
   .have d1:decide ((i:Int)<(L:Int))=true:=by rw[zm0];omega
    have ar:decide (i<L)=true:=zo1 I
    obtain⟨a,x,T,u,Y⟩:=HI.o
    obtain⟨lb,lo,rfl,ck,cv,cw⟩:=(bc.o.below Y.bl).at (i:=i) (by rw[hL.o];exact I)
    obtain⟨dd,a9⟩:=exH (zs.getD i dZ)
    rw[a9.o]at ck cv cw
    have av:dd.ok:=by
     rw[<-a9.o]
     exact bw.o _ (zav9 (by rw[hL.o];exact I))
    obtain⟨kd,O,ky⟩:=dd
    obtain⟨q1,q2,q3⟩:=av
    have DC:=Y.does kd O ky q1 ⟨zn2 q2 (by decide),zn2 q3 (by decide)⟩
    have i0:(0:Int)<=(i:Int):=by omega
    have i1:(i:Int)<(L:Int):=by omega
    have v1:=wk_nat (x:=(i:Int)+1) (t:=i+1) (by omega) (by omega)
    have v2:=zp9 (x:=(i:Int)+1) (t:=i+1) (by clear v1;omega) (by clear v1;omega)
    have bu:Hid (i<L):=I
    have b0:=za0 DC
    clear DC HI Y a9 q1 q2 q3
    go_wp2_with fail
    refine b0.o.mono ?_
    rintro e W2 ⟨rfl,a2,x2,cq,L3,h2⟩
    have b5:Hid (∃a x T u,TmS w b t c d M 350 a x T u W2):=⟨_,_,_,_,h2⟩
    clear h2 b0 ck cv cw
    go_wp2_with fail
    clear v1 v2
    have I:=bu.o
    first
     | exact⟨⟨i+1,by omega,by rfl,b5⟩,by simp[intOf];omega⟩
     | (go_roundw
        case rel=>exact⟨i+1,by omega,by rfl,b5⟩
        case measure=>simp[intOf];omega)
   .have d1:decide ((i:Int)<(L:Int))=false:=by rw[zn4];omega
    have ar:decide (i<L)=false:=zm1 I
    go_wp2_with fail
    go_meet
    exact HI
 case rest=>
  clear ap
  obtain⟨a,x,T,u,Y⟩:=hcut.o
  obtain⟨lev,B,kk⟩:=Y.kp
  have ax:Ah.fre a.A=(a.A.L.count 0:Nat):=by unfold Ah.fre;rw[kk.am.sa];simp
  obtain⟨fr,ai⟩:∃n:Nat,a.A.L.count 0=n:=⟨_,rfl⟩
  rw[ai]at ax
  have ch:fr<=300:=by rw[<-ai];exact zn2 List.count_le_length kk.ln
  have FC:=Y.free
  rw[ax]at FC
  have c2:=Y.cl 2
  have a0:=za0 FC
  have al:=za0 kk
  have b3:=za0 ai
  clear FC ax ai kk Y hcut
  unfold mp at c2 a0
  go_wp2_with fail
  refine a0.o.mono ?_
  rintro e W2 ⟨rfl,h2⟩
  obtain⟨a1,au⟩:∃q:AS,({ a with F:=λ _=>false }:AS)=q:=⟨_,rfl⟩
  have a6:Hid (KpB a1 x u lev B/\a1.A.L.count 0=fr/\Inw a1 a1):=by
   subst au
   exact⟨al.o.mv (λ _ _=>rfl) (λ _ _=>rfl) rfl rfl id,b3.o,zuc9 al.o.am.sa (λ _=>rfl)⟩
  have BC:=h2.mv (f:=22) (args:=#[tp t]) (a':=a1) (P:=λ e=>e=.returned (.tuple #[])) ⟨_,_,a6.o.1⟩ (λ U z=>by
   rw[<-au]
   exact(zin9 _ z).mono (λ e w' q=>⟨q.1,U,q.2.1,q.2.2,λ k hk=>.inl hk⟩))
  have c3:=h2.cl 3
  have aj:=za0 BC
  clear BC h2 c2 a0 au al b3
  unfold tp at c3 aj
  go_wp2_with fail
  refine aj.o.mono ?_
  rintro e W3 ⟨rfl,h3⟩
  have c4:=h3.cl 4
  have ao:Hid (∃a',TmS w b t c d M 350 a' x T u W3/\Inw a1 a'/\∃L',Kp a' x L'):=⟨a1,h3,a6.o.2.2,_,_,_,a6.o.1⟩
  clear h3 c3 aj
  go_upto_block 2 with fail
  go_cut [9,10,11,12] (λ _ _ _ _ wx=>Hid (∃a',TmS w b t c d M 350 a' x T u wx/\Inw a1 a'))
  case first=>
   go_wp2_with fail
   clear c4
   go_loopw [9,10] (λ rv iv wr=>∃(j:Nat)(y:Int),j<=E/\iv=.int .i64 (j:Int)/\rv=.int .i64 y/\Hid (∃a',TmS w b t c d M 350 a' x T u wr/\Inw a1 a'/\∃L',Kp a' y L')) (λ _ iv _=>E-(intOf iv).toNat)
   case atStart=>exact⟨0,x,zn7 _,rfl,rfl,ao⟩
   case round=>
    clear ao
    obtain⟨j,y,cj,rfl,rfl,HI⟩:=hrel
    by_cases I:j<E
    .have d1:decide ((j:Int)<(E:Int))=true:=by rw[zm0];omega
     have ar:decide (j<E)=true:=zo1 I
     obtain⟨a',Y,hI,L',cn,B',kk⟩:=HI.o
     obtain⟨lb,lo,rfl,ck,cv,cw⟩:=(an.o.below Y.bl).at (i:=j) (by rw[hE.o];exact I)
     obtain⟨dd,a9⟩:=exH (ys.getD j dZ)
     rw[a9.o]at ck cv cw
     have av:dd.ok:=by
      rw[<-a9.o]
      exact bx.o _ (zav9 (by rw[hE.o];exact I))
     obtain⟨kd,O,ky⟩:=dd
     obtain⟨q1,q2,q3⟩:=av
     have ad:Hid (∀W,Below w.heap.size w W->W.cell? ⟨lb,lo+j*3+1,none⟩=some (.string O)/\W.cell? ⟨lb,lo+j*3+2,none⟩=some (.string ky)):=λ W hb=>by
      obtain⟨cm,co,e,_,c2,c3⟩:=(an.o.below hb).at (i:=j) (by rw[hE.o];exact I)
      cases e
      rw[a9.o]at c2 c3
      exact⟨c2,c3⟩
     have PK:=zjj9 kd 2 (by decide) (by decide) q1 wr
     rw[show((2:Nat):Int)=2 from rfl]at PK
     obtain⟨pk,bp⟩:=exN (pkT kd 2)
     rw[bp]at PK
     have bb:=za0 PK
     have hx:=kk.xr
     have HO:=za0 Y
     have ag:=za0 hI
     have ab:=za0 kk
     have b7:Hid (O.size<=4611686018427387904/\ky.size<=4611686018427387904):=⟨zn2 q2 (by decide),zn2 q3 (by decide)⟩
     have HX:=za0 hx
     have i0:(0:Int)<=(j:Int):=by omega
     have i1:(j:Int)<(E:Int):=by omega
     have v1:=wk_nat (x:=(j:Int)+1) (t:=j+1) (by omega) (by omega)
     have v2:=zp9 (x:=(j:Int)+1) (t:=j+1) (by clear v1;omega) (by clear v1;omega)
     have ak:Hid (j<E):=I
     have b6:Hid (∀a2,Inw a1 a2->Kp a2 x u):=λ a2 h=>⟨_,_,inw_kp a6.o.1 h⟩
     clear PK bp Y hI kk HI q1 q2 q3 hx cv cw a9
     go_wp2_with fail
     refine bb.o.mono ?_
     rintro e w' ⟨rfl,e9⟩
     obtain rfl:wr=w':=e9.symm
     clear bb ck
     by_cases p0:pk=0
     .have d0:((pk:Int)==0)=true:=by rw[p0];rfl
      obtain⟨K,a4⟩:=exN (putF a' y O ky)
      have IP:Inw a1 K.a:=by rw[<-a4];exact ag.o.put y O ky
      have PT:=HO.o.drew.mv (a':=K.a) (P:=λ e=>e=.returned (.tuple #[.int .i64 K.x,.int .i64 K.e])) (f:=23) (args:=#[tp t,.int .i64 y,.string O,.string ky]) (b6.o _ IP) (λ U z=>by
       have:=zhs9 y (zap9 HX.o.1 HX.o.2) O ky b7.o.1 b7.o.2 _ z
       simp only[a4]at this
       exact this)
      have KP:K.e=10\/K.e=1/\Kp K.a y L'\/K.e=0/\∃L3,Kp K.a K.x L3:=by
       rw[<-a4]
       cases hm:mayE O ky with
       | false=>
        rw[zna9 hm]
        exact .inr (.inl ⟨rfl,_,_,ab.o⟩)
       | true=>
        rcases zrz9 ab.o hm with⟨H,_⟩|⟨H,_,k2⟩
        .exact .inl H
        .exact .inr (.inr ⟨H,_,k2⟩)
      obtain⟨px,pe,pa⟩:=K
      have ac:=za0 PT
      have a7:=za0 KP
      have af:=za0 IP
      have hS:wr.drew.cell? ⟨b,3,none⟩=some (.pointer (some ⟨t,0,none⟩))/\wr.drew.cell? ⟨lb,lo+j*3+1,none⟩=some (.string O)/\wr.drew.cell? ⟨lb,lo+j*3+2,none⟩=some (.string ky):=⟨HO.o.drew.cl 3,(ad.o _ HO.o.drew.bl).1,(ad.o _ HO.o.drew.bl).2⟩
      have a8:Hid (∀Q,TmS w b t c d M 350 pa x T u Q->Q.cell? ⟨b,3,none⟩=some (.pointer (some ⟨t,0,none⟩))/\Q.cell? ⟨lb,lo+j*3+1,none⟩=some (.string O)/\Q.cell? ⟨lb,lo+j*3+2,none⟩=some (.string ky)):=λ Q h9=>⟨h9.cl 3,(ad.o _ h9.bl).1,(ad.o _ h9.bl).2⟩
      clear PT KP IP a4 p0 HO
      unfold tp at ac
      go_wp2_with fail
      go_region_held3 (λ w'=>w'.cell? ⟨b,3,none⟩=some (.pointer (some ⟨t,0,none⟩))/\w'.cell? ⟨lb,lo+j*3+1,none⟩=some (.string O)/\w'.cell? ⟨lb,lo+j*3+2,none⟩=some (.string ky)) (first|go_keep|exact ah)
       (first
        | (go_at_call 23;refine ac.o.mono ?_;rintro e Q ⟨rfl,h9⟩;have ah:=a8.o Q h9;have H9:=za0 h9;clear h9))
      clear hS ah a8 ac
      rcases a7.o with H|⟨H,k2⟩|⟨H,L3,k2⟩
      .have H:pe=10:=H
       subst H
       clear a7
       go_wp2_with fail
       go_meet
       exact⟨pa,H9.o,af.o⟩
      .have H:pe=1:=H
       subst H
       have a5:Hid (∃a',TmS w b t c d M 350 a' x T u Q/\Inw a1 a'/\∃L',Kp a' y L'):=⟨pa,H9.o,af.o,_,k2⟩
       clear a7 k2 ab ag
       go_wp2_with fail
       clear v1 v2
       have I:=ak.o
       first
        | exact⟨⟨j+1,_,by omega,by rfl,by rfl,a5⟩,by simp[intOf];omega⟩
        | (go_roundw
           case rel=>exact⟨j+1,_,by omega,by rfl,by rfl,a5⟩
           case measure=>simp[intOf];omega)
      .have H:pe=0:=H
       subst H
       have a5:Hid (∃a',TmS w b t c d M 350 a' x T u Q/\Inw a1 a'/\∃L',Kp a' px L'):=⟨pa,H9.o,af.o,_,k2⟩
       clear a7 k2 ab ag
       go_wp2_with fail
       clear v1 v2
       have I:=ak.o
       first
        | exact⟨⟨j+1,_,by omega,by rfl,by rfl,a5⟩,by simp[intOf];omega⟩
        | (go_roundw
           case rel=>exact⟨j+1,_,by omega,by rfl,by rfl,a5⟩
           case measure=>simp[intOf];omega)
     .have d0:((pk:Int)==0)=false:=by rw[zl0];omega
      obtain⟨K,a4⟩:=exN (delF a' y O)
      have IP:Inw a1 K.a:=by rw[<-a4];exact ag.o.del y O
      have PT:=HO.o.drew.mv (a':=K.a) (P:=λ e=>e=.returned (.tuple #[.int .i64 K.x,.bool K.ok,.int .i64 K.e])) (f:=24) (args:=#[tp t,.int .i64 y,.string O]) (b6.o _ IP) (λ U z=>by
       have:=zlu9 y HX.o O _ z
       simp only[a4]at this
       exact this)
      have KP:K.e=10\/K.e=0/\∃L3,Kp K.a K.x L3:=by
       rw[<-a4]
       rcases zry9 (key:=O) ab.o with⟨_,k2,_⟩|⟨_,H,_⟩|⟨_,H,_,_,k2⟩
       .rw[k2];exact .inr ⟨rfl,_,_,_,ab.o⟩
       .exact .inl H
       .exact .inr ⟨H,_,k2⟩
      obtain⟨px,po,pe,pa⟩:=K
      have ac:=za0 PT
      have a7:=za0 KP
      have af:=za0 IP
      have hS:wr.drew.cell? ⟨b,3,none⟩=some (.pointer (some ⟨t,0,none⟩))/\wr.drew.cell? ⟨lb,lo+j*3+1,none⟩=some (.string O):=⟨HO.o.drew.cl 3,(ad.o _ HO.o.drew.bl).1⟩
      have a8:Hid (∀Q,TmS w b t c d M 350 pa x T u Q->Q.cell? ⟨b,3,none⟩=some (.pointer (some ⟨t,0,none⟩))/\Q.cell? ⟨lb,lo+j*3+1,none⟩=some (.string O)):=λ Q h9=>⟨h9.cl 3,(ad.o _ h9.bl).1⟩
      clear PT KP IP a4 p0 HO
      unfold tp at ac
      go_wp2_with fail
      go_region_held3 (λ w'=>w'.cell? ⟨b,3,none⟩=some (.pointer (some ⟨t,0,none⟩))/\w'.cell? ⟨lb,lo+j*3+1,none⟩=some (.string O)) (first|go_keep|exact ah)
       (first
        | (go_at_call 24;refine ac.o.mono ?_;rintro e Q ⟨rfl,h9⟩;have ah:=a8.o Q h9;have H9:=za0 h9;clear h9))
      clear hS ah a8 ac
      rcases a7.o with H|⟨H,L3,k2⟩
      .have H:pe=10:=H
       subst H
       clear a7
       go_wp2_with fail
       go_meet
       exact⟨pa,H9.o,af.o⟩
      .have H:pe=0:=H
       subst H
       have a5:Hid (∃a',TmS w b t c d M 350 a' x T u Q/\Inw a1 a'/\∃L',Kp a' px L'):=⟨pa,H9.o,af.o,_,k2⟩
       clear a7 k2 ab ag
       go_wp2_with fail
       clear v1 v2
       have I:=ak.o
       first
        | exact⟨⟨j+1,_,by omega,by rfl,by rfl,a5⟩,by simp[intOf];omega⟩
        | (go_roundw
           case rel=>exact⟨j+1,_,by omega,by rfl,by rfl,a5⟩
           case measure=>simp[intOf];omega)
    .have d1:decide ((j:Int)<(E:Int))=false:=by rw[zn4];omega
     have ar:decide (j<E)=false:=zm1 I
     have bt:Hid (∃a',TmS w b t c d M 350 a' x T u wr/\Inw a1 a'):=by obtain⟨a',q1,q2,_⟩:=HI.o;exact⟨a',q1,q2⟩
     clear HI
     go_wp2_with fail
     go_meet
     exact bt
  case rest=>
   clear ao c4
   obtain⟨a',Y,hI⟩:=hcut.o
   have hN:∀y,a'.F y=true->50<=y/\y<((350:Nat):Int):=by
    obtain⟨U,I,_⟩:=Y
    obtain⟨_,_,_,_,_,_,z⟩:=I.tz
    exact z.ok.fr
   obtain⟨f1,f2,f3,f4⟩:=zyq9 a6.o.1 hI hN
   rw[a6.o.2.1]at f1
   obtain⟨fl,aw⟩:=exH (freshL 350 a'.F)
   rw[aw.o]at f1 f2 f3 f4
   obtain⟨fn,bj⟩:=exH fl.length
   rw[bj.o]at f1
   have FS:Calls Tryz.prog 25 #[tp t] wc λ e w'=>∃fa fc,e=.returned (.slice fa fn fc)/\TmS w b t c d M 350 a' x T u w':=by
    obtain⟨U,I,_⟩:=id Y
    refine(zfi9 wc I.tz).mono ?_
    rintro e w' ⟨v,rfl,ov,bv,_⟩
    rw[aw.o]at ov
    have hl:∃fa fc,v=.slice fa fn fc:=by
     rw[<-bj.o]
     rcases ov.2 with⟨e,e2⟩|⟨g,cap,c0,e,_⟩
     .exact⟨none,0,by rw[e];simp at e2;rw[e2];rfl⟩
     .exact⟨_,cap,e⟩
    obtain⟨fa,fc,e⟩:=hl
    exact⟨fa,fc,by rw[e],Y.below bv⟩
   obtain⟨k,hk⟩:=exN (fr-fn)
   have bi:Ah.fre a'.A=(k:Int):=by unfold Ah.fre;rw[hI.sa];simp;omega
   have w1:=wk_nat (x:=(fr:Int)-(fn:Int)) (t:=k) (by omega) (by omega)
   have w2:=zp9 (x:=(fr:Int)-(fn:Int)) (t:=k) (by clear w1;omega) (by clear w1;omega)
   have aa:=za0 FS
   have bs:=za0 bi
   have ae:=za0 f3
   have b1:=za0 f2
   have b2:=za0 f4
   have c3:=Y.cl 3
   clear FS bi f1 f2 f3 f4 hI hN Y hcut hk
   unfold tp at c3 aa
   go_wp2_with fail
   refine aa.o.mono ?_
   rintro e W4 ⟨fa,fc,rfl,h4⟩
   have FC:=h4.free
   rw[bs.o]at FC
   have a0:=za0 FC
   have c2:=h4.cl 2
   clear FC h4 aa c3
   unfold mp at c2 a0
   go_wp2_with fail
   refine a0.o.mono ?_
   rintro e W5 ⟨rfl,h5⟩
   have UC:=h5.mv (a':=a'.gos fl) (P:=λ e=>e=.returned (.tuple #[])) (f:=26) (args:=#[tp t]) ⟨_,_,ae.o⟩ (λ U z=>by
    have:=zot9 _ z
    rw[aw.o]at this
    exact this)
   have aq:=za0 UC
   have c3:=h5.cl 3
   have dq:((k:Int) != (k:Int))=false:=by simp
   clear UC h5 a0 c2
   unfold tp at c3 aq
   go_wp2_with fail
   refine aq.o.mono ?_
   rintro e W6 ⟨rfl,h6⟩
   clear aq c3 w1 w2 dq
   obtain⟨va,vc,rfl,r1,r2,r3⟩:=h6.rd.len
   obtain⟨vn,ca⟩:=exH u.length
   rw[ca.o]at h6 r1
   have hx:=ae.o.xr
   obtain⟨a3,bh⟩:=exN (a'.gos fl)
   rw[bh]at h6 b1 ae b2
   have bm:=ae.o.len
   have HX:=za0 hx
   have ba:=za0 bm
   have hh:hasF a3 x u=true/\(scanF a3 x eS eS 1073741824).1.length<=1000000000:=by
    have q:=zyb9 (zn6 _) ae.o.tr ae.o.nd eS eS 1073741824
    have q2:scanF a3 x eS eS 1073741824=(u,0):=by
     unfold scanF
     rw[if_neg (by rw[q.1];decide),q.2]
     have e:scnE eS eS 1073741824 u=u:=by
      unfold scnE
      rw[zdh9 (λ e _=>?_),zn5 (by have:=ba.o.2;omega)]
      unfold inR
      rw[show lts e.1 eS=false from Ke.none e.1,show eqs eS eS=true from eqsP.2 rfl]
      rfl
     rw[e]
    unfold hasF
    rw[q2]
    refine⟨by simp,?_⟩
    have:=ba.o.2
    show u.length<=_
    omega
   have HC:=h6.drew.lw (P:=λ e _=>e=.returned (.bool true)) (f:=18) (args:=#[.pointer (some ⟨b,0,none⟩),.int .i64 x,.slice va vn vc]) (λ U hl hz=>(zwt9 x HX.o (.slice va vn vc) u _ hl h6.drew.rd (λ j hj=>(hz j hj).1) hh.2).mono (λ e w' q=>⟨by rw[q.1,hh.1],q.2⟩))
   have b4:=za0 HC
   have hS:W6.drew.cell? ⟨b,4,none⟩=some (.int .i64 x)/\W6.drew.cell? ⟨b,5,none⟩=some (.slice va vn vc):=⟨h6.drew.cl 4,h6.drew.cl 5⟩
   have a8:Hid (∀W7,TmS w b t c d M 350 a3 x (.slice va vn vc) u W7->W7.cell? ⟨b,4,none⟩=some (.int .i64 x)/\W7.cell? ⟨b,5,none⟩=some (.slice va vn vc)):=λ W7 h7=>⟨h7.cl 4,h7.cl 5⟩
   clear hh HC h6 r1 r2 r3 hx bm bh
   go_wp2_with fail
   go_region_held3 (λ w'=>w'.cell? ⟨b,4,none⟩=some (.int .i64 x)/\w'.cell? ⟨b,5,none⟩=some (.slice va vn vc)) (first|go_keep|exact bg)
    (first
     | (go_at_call 18;refine b4.o.mono ?_;rintro e W7 ⟨rfl,h7⟩;have bg:=a8.o W7 h7;have H7:=za0 h7;clear h7))
   have FC:=H7.o.free
   have bk:Ah.fre a3.A=(fr:Int):=by unfold Ah.fre;rw[b1.o,a6.o.1.am.sa,a6.o.2.1];simp
   rw[bk]at FC
   have a0:=za0 FC
   have c2:=H7.o.cl 2
   have df:((fr:Int)==(fr:Int))=true:=by simp
   clear hS bg a8 b4 FC bk
   unfold mp at c2 a0
   go_wp2_with fail
   refine a0.o.mono ?_
   rintro e W8 ⟨rfl,h8⟩
   have FS:Calls Tryz.prog 25 #[tp t] W8 λ e w'=>∃fa fc,e=.returned (.slice fa 0 fc)/\Below w.heap.size w w':=by
    obtain⟨U,I,_⟩:=id h8
    refine(zfi9 W8 I.tz).mono ?_
    rintro e w' ⟨v,rfl,ov,bv,_⟩
    rw[b2.o]at ov
    have hl:∃fa fc,v=.slice fa 0 fc:=by
     rcases ov.2 with⟨e,_⟩|⟨g,cap,c0,e,_⟩
     .exact⟨none,0,e⟩
     .exact⟨_,cap,e⟩
    obtain⟨fa,fc,e⟩:=hl
    exact⟨fa,fc,by rw[e],h8.bl.trans (bv.mono h8.bl.size)⟩
   have aa:=za0 FS
   have c3:=h8.cl 3
   clear FS h8 a0 c2
   unfold tp at c3 aa
   go_wp2_with fail
   refine aa.o.mono ?_
   rintro e Q ⟨cd,ce,rfl,b9⟩
   have ay:=za0 b9
   have b8:=za0 (znd9 Q)
   clear b9 aa c3
   go_wp2_with fail
   refine b8.o.mono ?_
   rintro e bz ⟨rfl,bd⟩
   have br:Hid (Below w.heap.size w bz):=ay.o.trans (bd.mono ay.o.size)
   clear bd b8
   go_wp2_with fail
   go_ret
   exact⟨by first|rfl|simp,br.o⟩
end Go.Proofs.YtcmjlibndmneiaaGreat
namespace Go.Proofs.YtcmjlibndmneiaaGreat
def zyu9:True:=trivial
