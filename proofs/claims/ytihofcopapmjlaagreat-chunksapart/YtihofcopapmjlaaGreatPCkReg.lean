import Derived.Test.YtihofcopapmjlaaGreatPDRegT
import Derived.Test.YtihofcopapmjlaaGreatPCkVw
import Derived.Test.YtihofcopapmjlaaGreatPBSum
import Derived.Test.YtihofcopapmjlaaGreatPFGetP
import Derived.Great.BuildSlice
set_option maxRecDepth 100000
set_option linter.all false
set_option maxHeartbeats 8000000
namespace Go.Proofs.YtihofcopapmjlaaGreat
open Go.Proofs.Tryz
open Go.RowKit
section
variable {P:Program} {md:Region.Mode} {ops:Array Oper} {Q:Exit->Act->World->Prop} {S:World->Prop} {t:Nat} {fuel:Nat} {listed:Array Bool} {a:Act} {w:World}
def Mj(i j d x f r)(B:D2 ops i d x)(E:D2 ops j f r)(hr:Region.ready md ops listed=[i,j])(h:J1 P md ops Q S t fuel listed a w i d x)(A:J1 P md ops Q S t fuel listed a w j f r):Du P md ops Q S t (fuel+1) listed a w:=by
 refine⟨λ J=>(by grind),λ q I=>?_⟩;rw[hr]at I;have:q=i\/q=j:=by grind
 rcases this with rfl|rfl;exact QN B h;exact QN E A
end
def Vr(w:World)(b:Nat)(T:TypeId)(cs:List Value):Prop:=w.heap[b]?=some (.cells cs.toArray T (0,0))
section
variable {w w':World} {b:Nat} {T:TypeId} {cs:List Value}
def Vr.lt(h:Vr w b T cs):b<w.heap.size:=(za0.1 h).1
def Vr.at(h:Vr w b T cs)(i):w.cell? ⟨b,i,none⟩=cs[i]?:=by rw[cell_of_row w b i _ _ (0,0) h];simp
def Vr.fz(h:Vr w b T cs)(i):w.frozen? ⟨b,i,none⟩=false:=frozen_of_row w b i _ _ h
def Vr.range(h:Vr w b T cs):w.rangeAt b 0 cs:=λ j u f=>by rw[Nat.zero_add,h.at];exact f
def Vr.there(h:Vr w b T cs):w.there b 0 cs.length:=λ j f=>⟨by rw[Nat.zero_add,h.at];simp[f],h.fz _⟩
def Vr.tch{S}(h:Vr w b T cs)(q:AD S w w')(f:¬S b):Vr w' b T cs:=by show w'.heap[b]?=_;rw[q.block b h.lt f];exact h
def Vr.on(h:Vr w b T cs)(f:Below w.heap.size w w'):Vr w' b T cs:=h.tch (S:=λ _=>False) (AD.of_below f) (λ e=>e)
def CZ(w:World)(T cs):Vr (w.alloc (.cells cs.toArray T)) w.heap.size T cs:=heap_alloc_new w _
def Vr.put(h:Vr w b T cs)(vs)(f:vs.length=cs.length):Vr (w.setCells b 0 vs) b T vs:=by
 have:=JU vs 0 w cs.toArray h (by simp[f]);rw[Nat.zero_add,f]at this;show _=some (Obj.cells vs.toArray T (0,0))
 grind
def Vr.set(h:Vr w b T cs)(i v):Vr (w.setCell ⟨b,i,none⟩ v) b T (cs.set i v):=by
 have:=heap_setCell_same w b i _ _ v h;show _=some (Obj.cells (cs.set i v).toArray T (0,0))
 grind
def GM(w b):∀vs o,AD (λ j=>j=b) w (w.setCells b o vs):=λ vs o=>I5 b vs o w
def Fl(w b i v):AD (λ j=>j=b) w (w.setCell ⟨b,i,none⟩ v):=(AD.refl (λ j=>j=b) w).setCell (p:=⟨b,i,none⟩) (λ _=>rfl) _
def Vr.load{P}(h:Vr w b T cs){d}(r:P.underlying T=some d)(f:d.isRow=true)(q:(P.info? T).map (·.size)=some cs.length):(loadVar T ⟨b,0,none⟩).run P w=.ok (.agg cs.toArray) w:=
 run_loadVar_mid (P:=P) w b 0 T cs d h.range r f q
end
def Hh{q}{p u:Tmp}{ty}(h:q.results=#[.cell p ty,.tmp u])(f P w b v x)(ha:f.getD p undef=.pointer (some ⟨b,0,none⟩))(r:(loadVar ty ⟨b,0,none⟩).run P w=.ok v w)(A:f.getD u undef=x):(results q f).run P w=.ok (.tuple #[v,x]) w:=by
 rw[results_cell_tmp h,ha];simp[asAddr,Result.andThen,r,A]
def GP{P}{f:Oper}{a w K Q ty x y b cs vs}(A:f.op=.store ty x y)(B:a.eval x=.pointer (some ⟨b,0,none⟩))(E:a.eval y=.agg vs.toArray)(hv:Vr w b ty cs)(r:vs.length=cs.length)(I:(P.info? ty).map (·.size)=some vs.length)(q:vs.toArray.all (·.oneCell')=true)(h:K (a.put f.dst undef) (w.setCells b 0 vs)):f.wp P a w K Q:=by
 refine wp_store_mid ty x y A b 0 vs.toArray B E (by simpa[r]using hv.there) (by omega) q ?_;omega
section
variable {o:Oper} {a:Act} {w:World} {K:Act->World->Prop} {Q:Exit->Act->World->Prop}
def KF:Gw prog 23 3 .i64 8:=⟨underlying23,info_parts (z:=.int .i64 0) (size:=1) (bytes:=8) (by kernel_rfl)⟩
def AFc(w z):(Instr.buildSlice 23 1 #[(0,.int .i64 z)]).run prog w=.ok (.slice (some ⟨w.heap.size,0,none⟩) 1 1) (w.alloc (.cells #[.int .i64 z] 3)):=by obtain⟨A,i,r,B,q,E⟩:=KF;refine run_buildSlice w _ _ 1 _ _ i _ A r B (by omega) (by omega) ?_;rw[q];exact Go.Great.fill_flat [.int .i64 z] _ (λ u f=>by simp at f;subst f;rfl) (by simp)
def Wu{x z}(f:o.op=Op.buildSlice 23 1 #[(0,x)])(r:a.eval x=.int .i64 z)(h:K (a.put o.dst (.slice (some ⟨w.heap.size,0,none⟩) 1 1)) (w.alloc (.cells #[.int .i64 z] 3))):Oper.wp prog o a w K Q:=by
 have q:=AFc w z;unfold Oper.wp;simp[execOp,f,r,q,Result.andThen];exact h
def AIY{s x}(I:o.op=.call { callee:=.builtin .append,args:=#[s,x],argTypes:=#[23,23] }){v u xs ys}(hs:a.eval s=v)(hv:AF .i64 3 w v xs)(hx:a.eval x=u)(hu:Rd .i64 w u ys)(hl:xs.length+ys.length<=100000000)(h:∀f w',AF .i64 3 w' f (xs++ys)->AY w w' v f->K (a.put o.dst f) w'):Oper.wp prog o a w K Q:=by
 obtain⟨J,i,E,L,q,B⟩:=KF;obtain⟨f,w',hr,O,r,A⟩:=Ps (P:=prog) w 23 o.type 3 i (.int .i64 0) 8 J E L q B rfl v (xs.map (Value.int .i64)) (by unfold AF at hv;grind) u (ys.map (Value.int .i64)) (Mw hu) (by unfold maxLen;simp;omega) (by simp;omega);unfold Oper.wp;simp[execOp,I,resolve,invoke,builtin,hs,hx,hr,Result.andThen];exact h f w' (by unfold AF;grind) ⟨AD.grown (AD.refl _ w) r (λ _ _ e=>e),A⟩
def AIe{T x y b i cs f n c}(q:T=23\/T=40)(A:o.op=.store T x y)(I:a.eval x=.pointer (some ⟨b,i,none⟩))(J:a.eval y=.slice f n c){E}(hv:Vr w b E cs)(r:i<cs.length)(h:K (a.put o.dst undef) (w.setCell ⟨b,i,none⟩ (.slice f n c))):Oper.wp prog o a w K Q:=by
 have hc:w.cell? ⟨b,i,none⟩=some cs[i]:=by rw[hv.at];simp[r]
 have L:=hv.fz i;have B:(Instr.storeAt T (.pointer (some ⟨b,i,none⟩)) (.slice f n c)).run prog w=.ok () (w.setCell ⟨b,i,none⟩ (.slice f n c)):=by rcases q with rfl|rfl<;>go_simp
 unfold Oper.wp execOp;simp only[A,I,J,Sem.run_bind,Sem.run_pure,Result.andThen_ok,B];exact h
end
def AF.neV{k e w v xs}(h:AF k e w v xs){b cs T}(q:Vr w b T cs)(A:e≠T):v.ownBlock≠some b:=by
 intro hv;have f:w.ownsRow 0 e 1 v xs.length (xs.map (Value.int k)):=h;rcases f.2 with⟨rfl,_⟩|⟨g,cap,r,rfl,_,E,_⟩
 .cases hv
 .simp only[Value.ownBlock,Option.some.injEq]at hv;subst hv;have B:w.heap[g]?=_:=q
  grind
def A4.cutN{w g f m cap xs}(h:A4 w (.slice (some ⟨g,f,none⟩) m cap) xs){l}(E:l<=m):A4 w (.slice (some ⟨g,f+l,none⟩) (m-l) (cap-l)) (xs.drop l):=by
 have I:xs.length=m:=by obtain⟨_,_,_,e,_⟩:=h;grind
 obtain⟨A,J,q,r,B⟩:=h.drop l (by omega)
 grind
def A4.cut0{w g f m cap xs}(h:A4 w (.slice (some ⟨g,f,none⟩) m cap) xs){l}(B:m<=l):A4 w (.slice (some ⟨g,f,none⟩) (m-l) 0) (xs.drop l):=by obtain⟨I,T,E,e,J,K,q,L,O⟩:=h;simp only[Value.slice.injEq,Option.some.injEq,Addr.mk.injEq,and_true]at e;obtain⟨⟨rfl,rfl⟩,rfl,rfl⟩:=e;rw[List.drop_of_length_le B,show xs.length-l=0 by omega];exact⟨g,f,0,rfl,AE _,by omega,q,λ i r=>by simp at r,λ j A=>by simp at A⟩
