import Derived.Test.YtcmjlibndmneiaaGreatPTEnt
import Derived.Test.YtcmjlibndmneiaaGreatPTRow
import Derived.Test.YtcmjlibndmneiaaGreatPTSe
set_option maxRecDepth 100000
set_option linter.all false
set_option maxHeartbeats 8000000
namespace Go.Proofs.YtcmjlibndmneiaaGreat
open Go.RowKit Pl
def mayE(key val:ByteArray):Bool:=!eqs key eS&&(decide (key.size<=24)&&decide (val.size<=24))
def zng9{key val:ByteArray}:mayE key val=true↔key≠eS/\key.size<=24/\val.size<=24:=by
 unfold mayE
 rw[Bool.and_eq_true,Bool.and_eq_true,zm0,zm0,Bool.not_eq_true']
 constructor
 .rintro⟨h,u⟩;exact⟨λ e=>(by rw[eqsP.2 e]at h;cases h),u⟩
 .rintro⟨h,u⟩;exact⟨eqs_ne h,u⟩
def zul9(key val:ByteArray)(a0:key.size<=4611686018427387904)(a1:val.size<=4611686018427387904)(w:World):
 Calls Tryz.prog 31 #[.string key,.string val] w λ e w'=>e=.returned (.bool (mayE key val))/\w'=w:=by
 obtain⟨E,T⟩:=exN key.toList.isEmpty
 have K:eqs key eS=E:=by rw[<-T];unfold eqs eS;simp
 obtain⟨m,H⟩:=exH (mayE key val)
 have u:Hid (m=(!E&&(decide (key.size<=24)&&decide (val.size<=24)))):=by show _=_;rw[<-H.o];unfold mayE;rw[K]
 rw[H.o]
 clear H K
 go_enter Tryz.func31,Tryz.ntmps31
 cases E with
 | true=>
  obtain rfl:m=false:=by rw[u.o];rfl
  clear u
  go_wp2_with fail
  go_ret
  exact⟨rfl,rfl⟩
 | false=>
  by_cases O:key.size<=24
  .have Y:decide ((key.size:Int)<=24)=true:=by rw[zm0];omega
   have A:=zo1 O
   by_cases Q:val.size<=24
   .have l2:decide ((val.size:Int)<=24)=true:=by rw[zm0];omega
    have I:=zo1 Q
    obtain rfl:m=true:=by rw[u.o,A,I];rfl
    clear u
    go_wp2_with fail
    go_ret
    exact⟨rfl,rfl⟩
   .have l2:decide ((val.size:Int)<=24)=false:=by rw[zn4];omega
    have I:=zm1 Q
    obtain rfl:m=false:=by rw[u.o,A,I];rfl
    clear u
    go_wp2_with fail
    go_ret
    exact⟨rfl,rfl⟩
  .have Y:decide ((key.size:Int)<=24)=false:=by rw[zn4];omega
   have A:=zm1 O
   obtain rfl:m=false:=by rw[u.o,A];rfl
   clear u
   go_wp2_with fail
   go_ret
   exact⟨rfl,rfl⟩
theorem zyp9:Tryz.prog.underlying 72=some (.struct (Tryz.prog.fieldsOf 72)):=by kernel_rfl
theorem zrb9:Tryz.prog.stoodInHeld 72=false:=by kernel_rfl
theorem zto9:((Tryz.prog.fieldsOf 72).toList.map λ f=>(decide (f.name = "_"),f.type,f.offset))=[(false,9,0),(false,9,1)]:=by kernel_rfl
def len2T{α:Type}{l:List α}(h:l.length=2):∃a b,l=[a,b]:=by
 match l,h with
 | [a,b],_=>exact⟨a,b,rfl⟩
def ziv9{P:Program}(w:World)(d:Nat)(xs ys:Array Value)(f:Field)(u:List Field)(a b:Value)(r:Bool)(E:¬f.name = "_")(ha:(part f.type xs f.offset).run P w=.ok a w)(A:(part f.type ys f.offset).run P w=.ok b w)(hr:(Op.equalIn d f.type a b).run P w=.ok r w):
 (Op.eqFields d xs ys (f::u)).run P w=if r=true then(Op.eqFields d xs ys u).run P w else .ok false w:=by
 simp only[Op.eqFields,E,ne_eq,not_false_eq_true,if_true,Sem.run_bind,ha,A,hr,Result.andThen_ok]
 cases r<;>simp
def zwd9(w:World)(d:Nat)(x y u A:ByteArray)(E:List Field)(h:(E.map λ f=>(decide (f.name = "_"),f.type,f.offset))=[(false,9,0),(false,9,1)]):
 (Op.eqFields (d+1) #[.string x,.string y] #[.string u,.string A] E).run Tryz.prog w=.ok (eqs x u&&eqs y A) w:=by
 obtain⟨T,Y,rfl⟩:=len2T (l:=E) (by have:=congrArg List.length h;simpa using this)
 simp only[List.map_cons,List.map_nil,List.cons.injEq,Prod.mk.injEq,and_true,zn4]at h
 obtain⟨⟨n0,H,O⟩,n1,I,Q⟩:=h
 have K:∀a b:ByteArray,(Op.equalIn (d+1) 9 (.string a) (.string b)).run Tryz.prog w=.ok (eqs a b) w:=λ a b=>run_equalIn_string (P:=Tryz.prog) w d 9 a b Tryz.underlying9
 rw[ziv9 w (d+1) _ _ T _ (.string x) (.string u) (eqs x u) n0 (by rw[H,O];exact run_part_plain w (by kernel_rfl) rfl) (by rw[H,O];exact run_part_plain w (by kernel_rfl) rfl) (by rw[H];exact K _ _)]
 rw[ziv9 w (d+1) _ _ Y _ (.string y) (.string A) (eqs y A) n1 (by rw[I,Q];exact run_part_plain w (by kernel_rfl) rfl) (by rw[I,Q];exact run_part_plain w (by kernel_rfl) rfl) (by rw[I];exact K _ _)]
 generalize eqs x u=b0
 generalize eqs y A=b1
 cases b0<;>cases b1<;>simp[Op.eqFields]
def eq_ent(w:World)(x y u A:ByteArray):(Op.equalIn 10000 72 (.agg #[.string x,.string y]) (.agg #[.string u,.string A])).run Tryz.prog w=.ok (decide ((x,y)=(u,A))) w:=by
 rw[run_equalIn_struct w 9999 72 _ _ zyp9 zrb9,zwd9 w 9998 x y u A _ zto9]
 congr 1
 rw[Bool.eq_iff_iff,Bool.and_eq_true,zm0,eqsP,eqsP]
 simp
def zoq9{vs us:List E2}{k:Nat}(u:k<vs.length)(A:k<us.length)(h:vs.take k=us.take k):vs.take (k+1)=us.take (k+1)↔vs.getD k eZ=us.getD k eZ:=by
 rw[take_succ' eZ _ _ u,take_succ' eZ _ _ A,h]
 simp
def zhu9(v u:Value)(ps E:List E2)(w:World)(h:RdE w v ps)(g:RdE w u E)(a8:ps.length<=1000000000):
 Calls Tryz.prog 16 #[v,u] w λ e w'=>e=.returned (.bool (decide (ps=E)))/\∃m,w'=w.drewN m:=by
 obtain⟨a,cap,rfl,l1,l2,l3⟩:=h.len
 obtain⟨b,a9,rfl,m1,m2,m3⟩:=g.len
 have H:=za0 h
 have G:=za0 g
 obtain⟨M,hM⟩:=exH (decide (ps=E))
 rw[hM.o]
 obtain⟨L,Y⟩:=exH ps.length
 rw[Y.o]at H l1 a8 |-
 obtain⟨K,T⟩:=exH E.length
 rw[T.o]at G m1 |-
 have ab:(L:Int)<=9223372036854775807:=by omega
 have aa:(K:Int)<=9223372036854775807:=by omega
 clear h g l3 m3
 by_cases a3:L=K
 rotate_left
 .have d0:((L:Int) != (K:Int))=true:=by simp;omega
  obtain rfl:M=false:=by rw[<-hM.o,zn4];intro e;exact a3 (by rw[<-Y.o,<-T.o,e])
  clear a3
  go_enter Tryz.func16,Tryz.ntmps16
  go_wp2_with fail
  go_ret
  exact⟨rfl,0,rfl⟩
 .subst a3
  have d0:((L:Int) != (L:Int))=false:=by simp
  go_enter Tryz.func16,Tryz.ntmps16
  go_wp2_with fail
  go_loopw [5] (λ iv wr=>∃k:Nat,k<=L/\iv=.int .i64 (k:Int)/\Hid ((∃m,wr=w.drewN m)/\ps.take k=E.take k)) (λ iv _=>L-(intOf iv).toNat)
  case atStart=>exact⟨0,zn7 _,rfl,⟨0,rfl⟩,rfl⟩
  case round=>
   obtain⟨k,hk,rfl,Q⟩:=hrel
   by_cases I:k<L
   .have d1:decide ((k:Int)<(L:Int))=true:=by rw[zm0];omega
    have a7:decide (k<L)=true:=zo1 I
    obtain⟨⟨m,A⟩,O⟩:=Q.o
    have bl:Below w.heap.size w wr:=by rw[A];exact belowN (zn6 _) m
    obtain⟨b1,o1,rfl,c1,c2⟩:=(H.o.below bl).at (i:=k) (by rw[Y.o];exact I)
    obtain⟨b2,o2,rfl,c3,c4⟩:=(G.o.below bl).at (i:=k) (by rw[T.o];exact I)
    have a2:=za0 (zoq9 (vs:=ps) (us:=E) (k:=k) (by rw[Y.o];exact I) (by rw[T.o];exact I) O)
    obtain⟨x,hx⟩:=exH ((ps.getD k eZ).1)
    obtain⟨y,hy⟩:=exH ((ps.getD k eZ).2)
    obtain⟨x',a4⟩:∃q,Hid ((E.getD k eZ).1=q):=⟨_,rfl⟩
    obtain⟨y',a5⟩:∃q,Hid ((E.getD k eZ).2=q):=⟨_,rfl⟩
    rw[hx.o]at c1
    rw[hy.o]at c2
    rw[a4.o]at c3
    rw[a5.o]at c4
    have a0:Hid ((ps.getD k eZ=E.getD k eZ)↔(x,y)=(x',y')):=by
     show _↔_
     rw[<-hx.o,<-hy.o,<-a4.o,<-a5.o]
    have i0:(0:Int)<=(k:Int):=by omega
    have i1:(k:Int)<(L:Int):=by omega
    have HW:Hid (∃m,wr=w.drewN m):=⟨m,A⟩
    by_cases e:(x,y)=(x',y')
    .have hq:∀W,(Op.equalIn 10000 72 (.agg #[.string x,.string y]) (.agg #[.string x',.string y'])).run Tryz.prog W=.ok true W:=λ W=>by rw[eq_ent,zo1 e]
     have HN:Hid (ps.take (k+1)=E.take (k+1)):=a2.o.2 (a0.o.2 e)
     have v1:=wk_nat (x:=(k:Int)+1) (t:=k+1) (by omega) (by omega)
     have v2:=zp9 (x:=(k:Int)+1) (t:=k+1) (by clear v1;omega) (by clear v1;omega)
     have a6:Hid (k<L):=I
     clear Q O A bl a2 a0 e
     go_wp2_with fail
     go_quiet (fail)
     have a1:Hid ((∃m,wr.drewN nq=w.drewN m)/\ps.take (k+1)=E.take (k+1)):=by
      obtain⟨m,A⟩:=HW.o
      exact⟨⟨m+nq,by rw[A];simp[World.drewN,Nat.add_assoc]⟩,HN.o⟩
     go_wp2_with fail
     clear v1 v2
     have ac:=a6.o
     first
      | exact⟨⟨k+1,by omega,by rfl,a1⟩,by simp[intOf];omega⟩
      | (go_roundw
         case rel=>exact⟨k+1,by omega,by rfl,a1⟩
         case measure=>simp[intOf];omega)
    .have hq:∀W,(Op.equalIn 10000 72 (.agg #[.string x,.string y]) (.agg #[.string x',.string y'])).run Tryz.prog W=.ok false W:=λ W=>by rw[eq_ent,zm1 e]
     obtain rfl:M=false:=by
      rw[<-hM.o,zn4]
      intro e2
      exact e (a0.o.1 (by rw[e2]))
     clear Q O A bl a2 a0 e
     go_wp2_with fail
     go_quiet (fail)
     have a1:Hid (∃m,wr.drewN nq=w.drewN m):=by
      obtain⟨m,A⟩:=HW.o
      exact⟨m+nq,by rw[A];simp[World.drewN,Nat.add_assoc]⟩
     go_wp2_with fail
     go_ret
     exact⟨rfl,a1.o⟩
   .have d1:decide ((k:Int)<(L:Int))=false:=by rw[zn4];omega
    have a7:decide (k<L)=false:=zm1 I
    obtain⟨⟨m,A⟩,O⟩:=Q.o
    obtain rfl:M=true:=by
     rw[<-hM.o,zm0,<-zn5 (l:=ps) (i:=k) (by have:=Y.o;omega),O,zn5 (by have:=T.o;omega)]
    have HW:Hid (∃m,wr=w.drewN m):=⟨m,A⟩
    clear Q O A
    go_wp2_with fail
    go_ret
    exact⟨rfl,HW.o⟩
