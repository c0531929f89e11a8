import Derived.Test.YtihofcopapmjlaaGreatPCkBi
import Derived.Test.YtihofcopapmjlaaGreatPBSum
import Derived.Test.YtihofcopapmjlaaGreatPClone
set_option maxRecDepth 100000
set_option linter.all false
set_option maxHeartbeats 8000000
namespace Go.Proofs.YtihofcopapmjlaaGreat
open Go.Proofs.Tryz
open Go.RowKit
def FZ(us:List (Int×Value)):List Value:=us.flatMap λ p=>[Value.int .i64 p.1,p.2]
def Xi(f vs):FZ (f++vs)=FZ f++FZ vs:=by simp[FZ]
def Xj(f i h):(FZ f)[i*2]?=some (.int .i64 f[i].1)/\(FZ f)[i*2+1]?=some f[i].2:=by
 induction f generalizing i with
 | nil=>simp at h
 | cons p f q=>
  have e:FZ (p::f)=[Value.int .i64 p.1,p.2]++FZ f:=by simp[FZ]
  rw[e];cases i with
  | zero=>simp
  | succ i=>grind
def DZ(w:World)(v:Value)(us:List (Int×Value)):Prop:=w.ownsRow 0 59 2 v us.length (FZ us)
def DZ.tch{S w w' v f}(h:DZ w v f)(r:AD S w w')(q:∀j,v.ownBlock=some j->¬S j):DZ w' v f:=r.owns h q
def DZ.below{w w' v f}(h:DZ w v f)(q:Below w.heap.size w w'):DZ w' v f:=
 h.tch (S:=λ _=>False) (AD.of_below q) (λ _ _ e=>e)
def Nk{w v A}(h:DZ w v A){k}(q:v.ownBlock=some k):∃f,w.heap[k]?=some (.cells f 59 (0,0)):=by
 have r:=h;rcases r.2 with⟨rfl,_⟩|⟨g,cap,f,rfl,_,B,_⟩
 .cases q
 .simp only[Value.ownBlock,Option.some.injEq]at q
  grind
def DZ.shape{w v f}(h:DZ w v f)(E:0<f.length):
 ∃g cap,v=.slice (some ⟨g,0,none⟩) f.length cap/\g<w.heap.size/\∀i,(r:i<f.length)->w.cell? ⟨g,i*2,none⟩=some (.int .i64 f[i].1)/\w.cell? ⟨g,i*2+1,none⟩=some f[i].2:=by
 have q:=h;rcases q.2 with⟨_,e⟩|⟨g,cap,B,rfl,_,A,J,I,_⟩
 .omega
 .refine⟨g,cap,rfl,(za0.1 A).1,λ i r=>?_⟩;have:=Xj f i r;rw[q.cellAt (i*2) (by omega),q.cellAt (i*2+1) (by omega)];exact this
def DZ.neV{w v q}(h:DZ w v q){b cs T}(f:Vr w b T cs)(A:59≠T):v.ownBlock≠some b:=by
 intro hv;obtain⟨r,hc⟩:=Nk h hv;have B:w.heap[b]?=_:=f
 grind
theorem ABK:(prog.info? 59).map (λ i=>(i.zero,i.size,i.bytes))=some (some (.agg #[.int .i64 0,.slice none 0 0]),2,32):=by kernel_rfl
section
variable {o:Oper} {a:Act} {w:World} {K:Act->World->Prop} {Q:Exit->Act->World->Prop}
def AIc{x y f n c}(q:o.op=Op.buildSlice 56 1 #[(0,x)])(A:a.eval x=.agg #[.int .i64 y,.slice f n c])(h:K (a.put o.dst (.slice (some ⟨w.heap.size,0,none⟩) 1 1)) (w.alloc (.cells #[.int .i64 y,.slice f n c] 59))):Oper.wp prog o a w K Q:=by
 have r:(execOp a.eval o).run prog w=.ok (Next.value (.slice (some ⟨w.heap.size,0,none⟩) 1 1)) (w.alloc (.cells #[.int .i64 y,.slice f n c] 59)):=by unfold execOp;simp only[q];simp only[List.map_toArray,List.map_cons,List.map_nil,A];go_simp
 unfold Oper.wp;simp only[r,Oper.upon];exact h
def AIX{s x}(L:o.op=.call { callee:=.builtin .append,args:=#[s,x],argTypes:=#[56,56] }){v us y z q}(hs:a.eval s=v)(hv:DZ w v us)(hx:a.eval x=.slice (some ⟨q,0,none⟩) 1 1)(hz:z.oneCell'=true)(hq:Vr w q 59 [.int .i64 y,z])(hl:us.length<=100000)(h:∀r A,DZ A r (us++[(y,z)])->AY w A v r->K (a.put o.dst r) A):Oper.wp prog o a w K Q:=by
 obtain⟨W,J,O,T,U⟩:=info_parts ABK;obtain⟨r,A,hr,E,I,_,X⟩:=Go.run_append_own_at (P:=prog) (w:=w) 0 56 o.type 59 W _ 2 32 underlying56 J O T U rfl (by decide) v us.length (FZ us) hv
  ⟨q,0,none⟩ 1 1 [.int .i64 y,z] rfl (λ j u f=>by
   match j,f with
   | 0,f=>simp at f;subst f;simpa[Addr.add]using hq.at 0
   | 1,f=>simp at f;subst f;simpa[Addr.add]using hq.at 1) (λ u B=>by
   rcases List.mem_cons.1 B with rfl|B;rfl
   grind) (by unfold maxLen;omega) (by omega) (AI _)
 unfold Oper.wp;simp[execOp,L,resolve,invoke,builtin,hs,hx,hr,Result.andThen];refine h r A (by unfold DZ;rw[Xi];simpa[FZ]using E) ⟨AD.grown (AD.refl _ w) I (λ _ _ e=>e),λ k Y=>?_⟩
 grind
def AIf{x y b cs f n c}(r:o.op=.store 56 x y)(B:a.eval x=.pointer (some ⟨b,0,none⟩))(I:a.eval y=.slice f n c){E}(hv:Vr w b E cs)(q:0<cs.length)(h:K (a.put o.dst undef) (w.setCell ⟨b,0,none⟩ (.slice f n c))):Oper.wp prog o a w K Q:=by
 have hc:w.cell? ⟨b,0,none⟩=some cs[0]:=by rw[hv.at];simp[q]
 have J:=hv.fz 0;have A:(Instr.storeAt 56 (.pointer (some ⟨b,0,none⟩)) (.slice f n c)).run prog w=.ok () (w.setCell ⟨b,0,none⟩ (.slice f n c)):=by go_simp
 unfold Oper.wp execOp;simp only[r,B,I,Sem.run_bind,Sem.run_pure,Result.andThen_ok,A];exact h
end
def ADv(w:World)(y f n c):DZ (w.alloc (.cells #[.int .i64 y,.slice f n c] 59)) (.slice (some ⟨w.heap.size,0,none⟩) 1 1) [(y,.slice f n c)]:=by exact World.ownsRow_lit w #[.int .i64 y,.slice f n c] 1 (AI _) (by unfold maxLen;omega) rfl
