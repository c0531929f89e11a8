import Derived.Test.YtcmjlibndmneiaaGreatPNRPut
import Derived.Test.YtcmjlibndmneiaaGreatPDWr
set_option maxRecDepth 100000
set_option linter.all false
set_option maxHeartbeats 8000000
namespace Go.Proofs.YtcmjlibndmneiaaGreat
open Go.RowKit Pl
abbrev En:=ByteArray×ByteArray
def ecells(ps:List En):List Value:=ps.flatMap λ p=>[Value.string p.1,Value.string p.2]
def zcy9(ps:List En):(ecells ps).length=ps.length*2:=by
 induction ps with
 | nil=>rfl
 | cons p ps u=>simp only[ecells,List.flatMap_cons,zf0,zk0,List.length_nil]at *;omega
def zcx9(ps u:List En):ecells (ps++u)=ecells ps++ecells u:=by simp[ecells]
def eZ:En:=(⟨#[]⟩,⟨#[]⟩)
def zdk9(ps:List En)(i:Nat)(h:i<ps.length):(ecells ps)[i*2]?=some (.string (ps.getD i eZ).1)/\(ecells ps)[i*2+1]?=some (.string (ps.getD i eZ).2):=by
 induction ps generalizing i with
 | nil=>simp at h
 | cons p ps u=>
  have e:ecells (p::ps)=[Value.string p.1,Value.string p.2]++ecells ps:=by simp[ecells]
  rw[e];cases i with
  | zero=>exact⟨rfl,rfl⟩
  | succ i=>have:=u i (by simpa using h);rw[show(i+1)*2=i*2+2 by omega];simp only[List.getD_cons_succ];exact⟨by simpa using this.1,by simpa using this.2⟩
def RdE(w:World)(v:Value)(ps:List En):Prop:=
 ∃a cap,v=.slice a ps.length cap/\ps.length<=cap/\cap<=maxLen/\(a=none->cap=0)/\
  (ps=[]\/∃b o,a=some ⟨b,o,none⟩/\∀i,i<ps.length->w.cell? ⟨b,o+i*2,none⟩=some (.string (ps.getD i eZ).1)/\w.cell? ⟨b,o+i*2+1,none⟩=some (.string (ps.getD i eZ).2))
def OwE(B:Nat)(w:World)(v:Value)(ps:List En):Prop:=w.ownsRow B 72 2 v ps.length (ecells ps)
section
variable {B:Nat} {w w':World} {v:Value} {ps:List En}
def owE_nil(B:Nat)(w:World):OwE B w (.slice none 0 0) []:=World.ownsRow_nil _ _ _ _
def OwE.rd(h:OwE B w v ps):RdE w v ps:=by
 have u:w.ownsRow B 72 2 v ps.length (ecells ps):=h;rcases u.2 with⟨rfl,A⟩|⟨g,cap,O,rfl,_,Q,I,E,_⟩
 .have K:ps=[]:=zh0 A;subst K;exact⟨none,0,rfl,zn6 _,by unfold maxLen;omega,λ _=>rfl,.inl rfl⟩
 .refine⟨some ⟨g,0,none⟩,cap,rfl,I,E,λ e=>(by cases e),.inr ⟨g,0,rfl,λ i H=>?_⟩⟩;have:=zdk9 ps i H;rw[Nat.zero_add,u.cellAt (i*2) (by omega),u.cellAt (i*2+1) (by omega)];exact this
def OwE.ge(h:OwE B w v ps):∀j,v.ownBlock=some j->B<=j:=λ j u=>(World.ownsRow.lt h j u).1
def OwE.tch{S:Nat->Prop}(h:OwE B w v ps)(Q:Tch S w w')(O:∀j,v.ownBlock=some j->¬S j):OwE B w' v ps:=by
 rcases h with⟨H,I⟩
 refine⟨H,?_⟩;rcases I with E|⟨g,cap,A,rfl,K,u,T⟩
 .exact .inl E
 .exact .inr ⟨g,cap,A,rfl,K,by rw[Q.block g (zd0.1 u).1 (O g rfl)];exact u,T⟩
def OwE.below(h:OwE B w v ps)(u:Below w.heap.size w w'):OwE B w' v ps:=h.tch (S:=λ _=>False) (Tch.of_below u) (λ _ _ e=>e)
def OwE.long(h:OwE B w v ps):∃a cap,v=.slice a ps.length cap:=by obtain⟨a,cap,e,_⟩:=h.rd;exact⟨a,cap,e⟩
def RdE.tch{S:Nat->Prop}(h:RdE w v ps)(H:Tch S w w')(E:∀j,v.ownBlock=some j->¬S j):RdE w' v ps:=by
 obtain⟨a,cap,rfl,Q,T,I,h⟩:=h;refine⟨a,cap,rfl,Q,T,I,?_⟩;rcases h with h|⟨b,o,rfl,K⟩
 .exact .inl h
 .refine .inr ⟨b,o,rfl,λ i O=>?_⟩;obtain⟨u,A⟩:=K i O;rw[H.cell (p:=⟨b,o+i*2,none⟩) (ze0 w ⟨b,o+i*2,none⟩ u) (E b rfl),H.cell (p:=⟨b,o+i*2+1,none⟩) (ze0 w ⟨b,o+i*2+1,none⟩ A) (E b rfl)];exact⟨u,A⟩
def RdE.below(h:RdE w v ps)(u:Below w.heap.size w w'):RdE w' v ps:=h.tch (S:=λ _=>False) (Tch.of_below u) (λ _ _ e=>e)
def RdE.len(h:RdE w v ps):∃a cap,v=.slice a ps.length cap/\ps.length<=cap/\cap<=9223372036854775807/\(a=none->cap=0):=by obtain⟨a,cap,rfl,A,E,u,h⟩:=h;exact⟨a,cap,rfl,A,by unfold maxLen at E;omega,u⟩
def RdE.at{a:Option Addr}{l cap:Nat}(h:RdE w (.slice a l cap) ps){i:Nat}(hi:i<ps.length):∃b o,a=some ⟨b,o,none⟩/\w.cell? ⟨b,o+i*2,none⟩=some (.string (ps.getD i eZ).1)/\w.cell? ⟨b,o+i*2+1,none⟩=some (.string (ps.getD i eZ).2):=by
 obtain⟨A,E,e,I,K,H,h⟩:=h;cases e;rcases h with h|⟨b,o,rfl,u⟩
 .rw[h]at hi;cases hi
 .exact⟨b,o,rfl,u i hi⟩
end
theorem infoE:(Tryz.prog.info? 72).map (λ i=>(i.zero,i.size,i.bytes))=some (some (.agg #[.string ⟨#[]⟩,.string ⟨#[]⟩]),2,32):=by kernel_rfl
def zru9(B:Nat)(w:World)(ty:TypeId)(v:Value)(ps:List En)(a0:OwE B w v ps)(g:Nat)(p:En)(K:w.cell? ⟨g,0,none⟩=some (.string p.1))(O:w.cell? ⟨g,1,none⟩=some (.string p.2))(hl:ps.length<=1000000000)(hB:B<=w.heap.size):
 ∃E w',(Builtin.append_ #[35,35] ty #[v,.slice (some ⟨g,0,none⟩) 1 1]).run Tryz.prog w=.ok E w'/\OwE B w' E (ps++[p])/\Tch (λ k=>v.ownBlock=some k) w w'/\Fsh w v E:=by
 obtain⟨i0,hi,a1,a2,a3⟩:=info_parts infoE;obtain⟨E,w',hr,Q,T,_,Y⟩:=run_append_own_at w B 35 ty 72 i0 _ 2 32 Tryz.underlying35 hi a1 a2 a3 rfl (by decide) v ps.length (ecells ps) a0 ⟨g,0,none⟩ 1 1 [.string p.1,.string p.2] rfl (λ j u A=>by
  match j,A with
  | 0,A=>simp at A;subst A;simpa[Addr.add]using K
  | 1,A=>simp at A;subst A;simpa[Addr.add]using O) (λ u I=>by simp at I;rcases I with rfl|rfl<;>rfl) (by unfold maxLen;omega) (by omega) hB
 refine⟨E,w',hr,?_,Tch.of_grown T,λ k H=>?_⟩
 .unfold OwE;rw[zcx9,zf0];simpa[ecells]using Q
 .rcases Y with e|e
  .exact .inl (by rw[<-e];exact H)
  .rw[H]at e;simp at e;exact .inr (by omega)
section
variable {o:Oper} {a:Act} {w:World} {K:Act->World->Prop} {Q:Exit->Act->World->Prop}
def zwg9(s x:Operand)(I:o.op=.call { callee:=.builtin .append,args:=#[s,x],argTypes:=#[35,35] })
 (B:Nat) (v:Value) (ps:List En) (hs:a.eval s=v) (hown:OwE B w v ps) (g:Nat) (p:En) (hx:a.eval x=.slice (some ⟨g,0,none⟩) 1 1) (h0:w.cell? ⟨g,0,none⟩=some (.string p.1)) (h1:w.cell? ⟨g,1,none⟩=some (.string p.2)) (hl:ps.length<=1000000000) (hB:B<=w.heap.size)
 (h:∀u w',OwE B w' u (ps++[p])->Tch (λ k=>v.ownBlock=some k) w w'->Fsh w v u->K (a.put o.dst u) w'):Oper.wp Tryz.prog o a w K Q:=by
 obtain⟨u,w',hr,A,E,H⟩:=zru9 B w o.type v ps hown g p h0 h1 hl hB;unfold Oper.wp;simp[execOp,I,resolve,invoke,builtin,hs,hx,hr,Result.andThen];exact h u w' A E H
end
