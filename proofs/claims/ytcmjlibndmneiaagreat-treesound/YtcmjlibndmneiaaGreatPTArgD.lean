import Derived.Test.YtcmjlibndmneiaaGreatPTEnt
import Derived.Deep.Slices
import Derived.OpenShut
import Derived.ShutString
set_option maxRecDepth 100000
set_option linter.all false
set_option maxHeartbeats 8000000
namespace Go.Proofs.YtcmjlibndmneiaaGreat
open Go.RowKit Go.ChangeShapes Go.WideShapes
structure Dt where
 kd:Int
 key:ByteArray
 val:ByteArray
def dZ:Dt:=⟨0,⟨#[]⟩,⟨#[]⟩⟩
def Dt.ok(x:Dt):Prop:=(Lit.int .i64 x.kd).wf=true/\x.key.size<=140737488351232/\x.val.size<=140737488351232
def RdDt(w:World)(v:Value)(ps:List Dt):Prop:=
 ∃a cap,v=.slice a ps.length cap/\ps.length<=cap/\cap<=maxLen/\(a=none->cap=0)/\
  (ps=[]\/∃b o,a=some ⟨b,o,none⟩/\∀i,i<ps.length->w.cell? ⟨b,o+i*3,none⟩=some (.int .i64 (ps.getD i dZ).kd)/\w.cell? ⟨b,o+i*3+1,none⟩=some (.string (ps.getD i dZ).key)/\w.cell? ⟨b,o+i*3+2,none⟩=some (.string (ps.getD i dZ).val))
def RdDt.below{w w':World}{v:Value}{ps:List Dt}(h:RdDt w v ps)(Q:Below w.heap.size w w'):RdDt w' v ps:=by
 obtain⟨a,cap,rfl,I,K,O,h⟩:=h;refine⟨a,cap,rfl,I,K,O,?_⟩;rcases h with h|⟨b,o,rfl,T⟩
 .exact .inl h
 .refine .inr ⟨b,o,rfl,λ i Y=>?_⟩;obtain⟨E,c1,H⟩:=T i Y;have u:=ze0 w ⟨b,o+i*3,none⟩ E;have A:=Tch.of_below (S:=λ _=>False) Q;exact⟨by rw[A.cell (p:=⟨b,o+i*3,none⟩) u (λ e=>e)];exact E,by rw[A.cell (p:=⟨b,o+i*3+1,none⟩) u (λ e=>e)];exact c1,by rw[A.cell (p:=⟨b,o+i*3+2,none⟩) u (λ e=>e)];exact H⟩
def RdDt.at{w:World}{a:Option Addr}{l c:Nat}{ps:List Dt}(h:RdDt w (.slice a l c) ps){i:Nat}(hi:i<ps.length):∃b o,a=some ⟨b,o,none⟩/\w.cell? ⟨b,o+i*3,none⟩=some (.int .i64 (ps.getD i dZ).kd)/\w.cell? ⟨b,o+i*3+1,none⟩=some (.string (ps.getD i dZ).key)/\w.cell? ⟨b,o+i*3+2,none⟩=some (.string (ps.getD i dZ).val):=by
 obtain⟨A,cap,e,_,_,_,h⟩:=h;cases e;rcases h with h|⟨b,o,rfl,u⟩
 .rw[h]at hi;cases hi
 .exact⟨b,o,rfl,u i hi⟩
def len3D{α:Type}{l:List α}(h:l.length=3):∃a b c,l=[a,b,c]:=by
 match l,h with
 | [a,b,c],_=>exact⟨a,b,c,rfl⟩
def zei9{P:Program}{H:Type}{e:TypeId}{d:DataW H}{l:List (DataW H)}(h:d∈l):∀n∈d.weights P e,n∈DataW.weightsAll P e l:=by
 induction l with
 | nil=>cases h
 | cons x r A=>
  intro n u;simp only[DataW.weightsAll,zi0];rcases List.mem_cons.1 h with rfl|h
  .exact .inl u
  .exact .inr (A h n u)
section
variable {H:Type} {enc:TypeId×Value->H} {W:World} {base:Nat} {spare:Nat->Bool} {held:Bool}
def zmq9{fuel:Nat}{u:List Value}{x:DataW H×List MemPlace}(h:DataW.trod enc Tryz.prog W base spare held fuel 28 u=some x):
 ∃p:Dt,u=[.int .i64 p.kd,.string p.key,.string p.val]/\(Lit.int .i64 p.kd).wf=true/\x.1=.agg [.lit (.int .i64 p.kd),.lit (.string p.key.data.toList),.lit (.string p.val.data.toList)]:=by
 obtain⟨xs,n,_,hx,hl,a0,A⟩:=DataW.trod_struct Tryz.underlying28 h;have a1:u.length=3:=by rw[hl];kernel_rfl
 have a2:xs.length=3:=by rw[a0];rfl
 clear hl a0;obtain⟨y0,y1,y2,rfl⟩:=len3D a2;obtain⟨E,I,K,rfl⟩:=len3D a1;have k0:Tryz.prog.cellsOf 3=1:=by kernel_rfl
 have k1:Tryz.prog.cellsOf 9=1:=by kernel_rfl
 have Y:DataW.trod enc Tryz.prog W base spare held n 3 (([E,I,K].drop 0).take (Tryz.prog.cellsOf 3))=some y0:=A 0 _ rfl;have g1:DataW.trod enc Tryz.prog W base spare held n 9 (([E,I,K].drop 1).take (Tryz.prog.cellsOf 9))=some y1:=A 1 _ rfl;have g2:DataW.trod enc Tryz.prog W base spare held n 9 (([E,I,K].drop 2).take (Tryz.prog.cellsOf 9))=some y2:=A 2 _ rfl;rw[k0]at Y;rw[k1]at g1 g2;obtain⟨n0,O,q0,w0⟩:=DataW.trod_int Tryz.underlying3 Y;obtain⟨s1,Q,q1,_⟩:=DataW.trod_string Tryz.underlying9 g1;obtain⟨s2,T,q2,_⟩:=DataW.trod_string Tryz.underlying9 g2;simp only[List.drop_succ_cons,List.drop_zero,List.take_succ_cons,List.take_zero,List.cons.injEq,and_true]at O Q T;subst O Q T q1 q2
 exact⟨⟨n0,s1,s2⟩,rfl,w0,by rw[hx];first|rfl|(simp only[List.map_cons,List.map_nil];rw[q0.1])|simp[q0]⟩
def tdeeds_open{fuel:Nat}{O:List Value}{x:DataW H×List MemPlace}(h:DataW.trod enc Tryz.prog W base spare held fuel 22 O=some x):
 (O=[.slice none 0 0]/\x.1=.nil)\/∃(a:Addr)(u cap:Nat)(ps:List Dt) (es fs:List (DataW H)),O=[.slice (some a) u cap]/\ps.length=u/\RdDt W (.slice (some a) u cap) ps/\x.1=.slice es fs/\es.length=u/\
  ((∀n∈x.1.weights Tryz.prog 22,n<=reachBytes)->∀e∈ps,e.ok):=by
 rcases Go.Deep.open_slice Tryz.underlying22 h with⟨A,E⟩|⟨a,u,cap,m,n,D,Pl,rfl,hb,hl,hm,a3,rfl,hx⟩
 .exact .inl ⟨A,by rw[E]⟩
 .right;have c4:Tryz.prog.cellsOf 28=3:=by kernel_rfl
  have aa:u<=m:=by rw[a3];split<;>omega
  have a1:∀i,i<u->∃d:Dt,W.cell? (a.add (i*3))=some (.int .i64 d.kd)/\W.cell? (a.add (i*3+1))=some (.string d.key)/\W.cell? (a.add (i*3+2))=some (.string d.val)/\(Lit.int .i64 d.kd).wf=true/\D i=.agg [.lit (.int .i64 d.kd),.lit (.string d.key.data.toList),.lit (.string d.val.data.toList)]:=by intro i I;obtain⟨a7,A,E⟩:=hx i (by omega);rw[c4]at A;obtain⟨_,a9,Q⟩:=World.cells?_some A;obtain⟨p,rfl,a0,T⟩:=zmq9 E;have e0:=Q 0 (by omega);have e1:=Q 1 (by omega);have e2:=Q 2 (by omega);rw[Go.Deep.add_add]at e0 e1 e2;exact⟨p,by simpa using e0,by simpa using e1,by simpa using e2,a0,T⟩
  have a8:Inhabited Dt:=⟨dZ⟩
  obtain⟨f,Y⟩:=Go.Deep.choose_lt (α:=Dt) a1;refine⟨a,u,cap,(List.range u).map f,_,_,rfl,by simp,?_,rfl,by simp,?_⟩
  .refine⟨some a,cap,by simp,by simpa using hl,hm,(λ e=>by cases e),?_⟩;by_cases h0:u=0
   .left;rw[h0];rfl
   .right;obtain⟨b,a5,a6⟩:=a;(have a4:a6=none:=by simpa[Addr.add]using World.cell?_spot (Y 0 (by omega)).1);subst a4;refine⟨b,a5,rfl,λ i I=>?_⟩;(have K:i<u:=by simpa using I);(have hg:((List.range u).map f).getD i dZ=f i:=by rw[zn3,zd1,List.getElem?_range K];rfl);rw[hg];obtain⟨c0,c1,c2,_⟩:=Y i K;rw[Addr.add_lit]at c0 c1 c2;exact⟨c0,by rw[Nat.add_assoc];exact c1,by rw[Nat.add_assoc];exact c2⟩
  .intro hw e he;obtain⟨i,I,rfl⟩:=List.mem_map.1 he;(have K:i<u:=by simpa using I);obtain⟨_,_,_,a0,T⟩:=Y i K;have a2:D i∈(List.range u).map D:=List.mem_map.2 ⟨i,I,rfl⟩;have q:∀n∈(D i).weights Tryz.prog 28,n<=reachBytes:=λ n hn=>hw n (by
    simp only[DataW.weights,Tryz.underlying22,List.mem_cons,zi0];exact .inr (.inl (zei9 a2 n hn)))
   rw[T]at q;have A:=q (f i).key.data.toList.length (by simp[DataW.weights,DataW.weightsEach,Tryz.underlying28]);have E:=q (f i).val.data.toList.length (by simp[DataW.weights,DataW.weightsEach,Tryz.underlying28]);unfold reachBytes at A E;rw[Array.length_toList]at A E;exact⟨a0,A,E⟩
end
