import Derived.Test.YtcmjlibndmneiaaGreatPNPl
import Derived.Test.YtcmjlibndmneiaaGreatPDBs
set_option maxRecDepth 100000
set_option linter.all false
set_option maxHeartbeats 8000000
namespace Go.Proofs.YtcmjlibndmneiaaGreat
open Go.RowKit Pl
def tch_at(w:World)(b i:Nat)(v:Value):Tch (λ j=>j=b) w (w.setCell ⟨b,i,none⟩ v):=(Tch.refl (λ j=>j=b) w).setCell (p:=⟨b,i,none⟩) (λ _=>rfl) _
theorem zst9:(Tryz.prog.info? 93).map (·.size)=some 4:=by kernel_rfl
theorem znm9:(Tryz.prog.info? 102).map (·.size)=some 4:=by kernel_rfl
section
variable {w w':World} {T:TypeId} {b:Nat} {lf:Bool} {u1 u2 u3:Value}
def Nb.range(h:Nb w T b lf u1 u2 u3):w.rangeAt b 0 [.bool lf,u1,u2,u3]:=λ j u A=>by rw[Nat.zero_add,cell_of_row w b j _ _ (0,0) h,List.getElem?_toArray];exact A
def Nb.load(h:Nb w 93 b lf u1 u2 u3):(loadVar 93 ⟨b,0,none⟩).run Tryz.prog w=.ok (nod lf u1 u2 u3) w:=
 run_loadVar_mid (P:=Tryz.prog) w b 0 93 [.bool lf,u1,u2,u3] _ h.range Tryz.underlying93 rfl zst9
def Nb.loadR(h:Nb w 102 b lf u1 u2 u3):(loadVar 102 ⟨b,0,none⟩).run Tryz.prog w=.ok (nod lf u1 u2 u3) w:=
 run_loadVar_mid (P:=Tryz.prog) w b 0 102 [.bool lf,u1,u2,u3] _ h.range Tryz.underlying102 rfl znm9
def Nb.s0(h:Nb w T b lf u1 u2 u3)(x:Bool):Nb (w.setCell ⟨b,0,none⟩ (.bool x)) T b x u1 u2 u3:=heap_setCell_same w b 0 _ _ (.bool x) h
def Nb.s1(h:Nb w T b lf u1 u2 u3)(x:Value):Nb (w.setCell ⟨b,1,none⟩ x) T b lf x u2 u3:=heap_setCell_same w b 1 _ _ x h
def Nb.s2(h:Nb w T b lf u1 u2 u3)(x:Value):Nb (w.setCell ⟨b,2,none⟩ x) T b lf u1 x u3:=heap_setCell_same w b 2 _ _ x h
def Nb.s3(h:Nb w T b lf u1 u2 u3)(x:Value):Nb (w.setCell ⟨b,3,none⟩ x) T b lf u1 u2 x:=heap_setCell_same w b 3 _ _ x h
def Nb.all(h:Nb w T b lf u1 u2 u3)(x:Bool)(x1 x2 x3:Value):Nb ((((w.setCell ⟨b,0,none⟩ (.bool x)).setCell ⟨b,1,none⟩ x1).setCell ⟨b,2,none⟩ x2).setCell ⟨b,3,none⟩ x3) T b x x1 x2 x3:=(((h.s0 x).s1 x1).s2 x2).s3 x3
def zl9(w:World)(b:Nat)(u x1 x2 x3:Value):Tch (λ j=>j=b) w ((((w.setCell ⟨b,0,none⟩ u).setCell ⟨b,1,none⟩ x1).setCell ⟨b,2,none⟩ x2).setCell ⟨b,3,none⟩ x3):=
 (((tch_at w b 0 u).trans (tch_at _ b 1 x1) (λ _ _ e=>e)).trans (tch_at _ b 2 x2) (λ _ _ e=>e)).trans (tch_at _ b 3 x3) (λ _ _ e=>e)
end
def Nn.tch{S:Nat->Prop}{w w':World}{n:Nd}{u1 u2 u3:Value}(h:Nn w n u1 u2 u3)(u:Tch S w w')(A:∀b,u1.ownBlock=some b->¬S b)(E:∀b,u2.ownBlock=some b->¬S b)(H:∀b,u3.ownBlock=some b->¬S b):Nn w' n u1 u2 u3:=
 ⟨h.k.tch u A,h.v.tch u E,h.d.tch u H⟩
def zhj9{u:Func}{p:Tmp}{ty:TypeId}(h:u.results=#[.cell p ty])(A:Array Value)(P:Program)(w:World):
 (results u A).run P w=((asAddr (A.getD p undef)).run P w).andThen λ a E=>(loadVar ty a).run P E:=by
 simp only[results,h];simp[Sem.run_bind,Result.andThen]
def zbd9{u:Func}{p:Tmp}{ty:TypeId}(h:u.results=#[.cell p ty])(A:Array Value)(P:Program)(w:World)(b:Nat)(v:Value)(ha:A.getD p undef=.pointer (some ⟨b,0,none⟩))
 (E:(loadVar ty ⟨b,0,none⟩).run P w=.ok v w):(results u A).run P w=.ok v w:=by
 rw[zhj9 h,ha];simp[asAddr,Result.andThen,E]
def ze9{E:Func}{p u:Tmp}{ty:TypeId}(h:E.results=#[.cell p ty,.tmp u])(A:Array Value)(P:Program)(w:World)(b:Nat)(v x:Value)(ha:A.getD p undef=.pointer (some ⟨b,0,none⟩))
 (H:(loadVar ty ⟨b,0,none⟩).run P w=.ok v w) (I:A.getD u undef=x):(results E A).run P w=.ok (.tuple #[v,x]) w:=by
 rw[results_cell_tmp h,ha];simp[asAddr,Result.andThen,H,I]
def OwnsV.ne{e:TypeId}{w:World}{v:Value}{u:List Value}(h:OwnsV e w v u){b:Nat}{C:Array Value}{T:TypeId}(I:w.heap[b]?=some (.cells C T (0,0)))(H:e≠T):v.ownBlock≠some b:=by
 intro hv;have E:w.ownsRow 0 e 1 v u.length u:=h;rcases E.2 with⟨rfl,_⟩|⟨g,cap,K,rfl,_,A,_⟩
 .cases hv
 .simp only[Value.ownBlock,Option.some.injEq]at hv;subst hv;rw[I]at A;simp only[Option.some.injEq,Obj.cells.injEq]at A;exact H A.2.1.symm
def RdV.long{w:World}{v:Value}{u:List Value}(h:RdV w v u):∃a cap,v=.slice a u.length cap:=by obtain⟨a,cap,e,_⟩:=h;exact⟨a,cap,e⟩
def OwB(B:Nat)(w:World)(v:Value)(xs:List Int):Prop:=w.ownsRow B 5 1 v xs.length (xs.map (Value.int .u8))
def OwB.owns{B:Nat}{w:World}{v:Value}{xs:List Int}(h:OwB B w v xs):Owns .u8 5 w v xs:=by
 refine⟨h.1,?_⟩;rcases h.2 with A|⟨g,cap,u,rfl,E,rest⟩
 .exact .inl A
 .exact .inr ⟨g,cap,u,rfl,zn7 _,rest⟩
def OwB.rd{B:Nat}{w:World}{v:Value}{xs:List Int}(h:OwB B w v xs):Rd .u8 w v xs:=h.owns.rd
def OwB.ge{B:Nat}{w:World}{v:Value}{xs:List Int}(h:OwB B w v xs):∀j,v.ownBlock=some j->B<=j:=λ j u=>(World.ownsRow.lt h j u).1
def OwB.tch{S:Nat->Prop}{B:Nat}{w w':World}{v:Value}{xs:List Int}(h:OwB B w v xs)(K:Tch S w w')(I:∀j,v.ownBlock=some j->¬S j):OwB B w' v xs:=by
 refine⟨h.1,?_⟩;rcases h.2 with E|⟨g,cap,A,rfl,H,u,rest⟩
 .exact .inl E
 .refine .inr ⟨g,cap,A,rfl,H,?_,rest⟩;rw[K.block g (zd0.1 u).1 (I g rfl)];exact u
def OwB.below{B:Nat}{w w':World}{v:Value}{xs:List Int}(h:OwB B w v xs)(u:Below w.heap.size w w'):OwB B w' v xs:=h.tch (S:=λ _=>False) (Tch.of_below u) (λ _ _ e=>e)
def OwB.long{B:Nat}{w:World}{v:Value}{xs:List Int}(h:OwB B w v xs):∃a cap,v=.slice a xs.length cap:=by obtain⟨a,cap,e,_⟩:=h.rd;exact⟨a,cap,e⟩
def OwB.ne{B:Nat}{w:World}{v:Value}{xs:List Int}(h:OwB B w v xs){b:Nat}{C:Array Value}{T:TypeId}(A:w.heap[b]?=some (.cells C T (0,0)))(u:5≠T):v.ownBlock≠some b:=
 (OwnsV.ints h.owns).ne A u
def OwB.mono{B B':Nat}{w:World}{v:Value}{xs:List Int}(h:OwB B w v xs)(E:B'<=B):OwB B' w v xs:=by
 refine⟨h.1,?_⟩;rcases h.2 with A|⟨g,cap,u,rfl,H,rest⟩
 .exact .inl A
 .exact .inr ⟨g,cap,u,rfl,zn2 E H,rest⟩
structure Gb(B:Nat)(w w':World)(v:Value):Prop where
 tch:Tch (λ k=>v.ownBlock=some k) w w'
def Gb.below{B:Nat}{w w':World}{v:Value}{xs:List Int}(h:Gb B w w' v)(A:OwB B w v xs)(u:B<=w.heap.size):Below B w w':=h.tch.below u (λ k e=>A.ge k e)
def zhc9:∃i,Tryz.prog.info? 5=some i/\i.zero=some (.int .u8 0)/\i.size=1/\i.bytes=1:=info_parts (z:=.int .u8 0) (size:=1) (bytes:=1) (by kernel_rfl)
def zgk9(B:Nat)(w:World)(ty:TypeId)(v:Value)(xs:List Int)(a0:OwB B w v xs)(g:Nat)(ys:List Int)(O:∀j u,(ys.map (Value.int .u8))[j]?=some u->w.cell? ⟨g,j,none⟩=some u)(hl:xs.length+ys.length<=100000)(I:B<=w.heap.size):
 ∃A w',(Builtin.append_ #[61,61] ty #[v,.slice (some ⟨g,0,none⟩) ys.length ys.length]).run Tryz.prog w=.ok A w'/\OwB B w' A (xs++ys)/\Gb B w w' v:=by
 obtain⟨i,T,hz,H,K⟩:=zhc9;obtain⟨A,w',hr,Y,Q,_⟩:=run_append_own (P:=Tryz.prog) w B 61 ty 5 i (.int .u8 0) 1 1 Tryz.underlying61 T hz H K rfl (by decide) v xs.length (xs.map (Value.int .u8)) a0 ⟨g,0,none⟩ ys.length ys.length (ys.map (Value.int .u8)) (by simp)
  (λ j u E=>by rw[Addr.add_lit,Nat.zero_add];exact O j u E) (λ u E=>by obtain⟨x,_,rfl⟩:=List.mem_map.1 E;rfl) (by unfold maxLen;omega) (by omega) I
 refine⟨A,w',hr,?_,⟨(Tch.refl _ w).grown Q (λ _ _ e=>e)⟩⟩;unfold OwB;rw[zf0,zi1];exact Y
def zpb9(B:Nat)(w:World)(ty:TypeId)(v:Value)(xs:List Int)(Q:OwB B w v xs)(s:ByteArray)(Y:xs.length+s.size<=100000)(E:B<=w.heap.size):
 ∃u w',(Builtin.append_ #[61,9] ty #[v,.string s]).run Tryz.prog w=.ok u w'/\OwB B w' u (xs++bts s)/\Gb B w w' v:=by
 obtain⟨i,K,T,A,H⟩:=zhc9;obtain⟨u,w',hr,O,I,_⟩:=Lib.run_append_own_string (P:=Tryz.prog) w B 61 9 ty 5 i Tryz.underlying61 Tryz.underlying9 K T A H v xs.length (xs.map (Value.int .u8)) Q s (by unfold maxLen;omega) (by omega) E;refine⟨u,w',hr,?_,⟨(Tch.refl _ w).grown I (λ _ _ e=>e)⟩⟩;unfold OwB;rw[zf0,zi1,zbn9,<-zqk9];exact O
section
variable {ops:Array Oper} {rest:List Oper} {o:Oper} {a:Act} {Q:Exit->Act->World->Prop}
def zel9(w:World)(O:o.guard=none)(s x:Operand)(T:o.op=.call { callee:=.builtin .append,args:=#[s,x],argTypes:=#[61,61] })
 (B:Nat) (v:Value) (xs:List Int) (hs:a.eval s=v) (hown:OwB B w v xs) (g:Nat) (ys:List Int) (hx:a.eval x=.slice (some ⟨g,0,none⟩) ys.length ys.length) (hg:∀j u,(ys.map (Value.int .u8))[j]?=some u->w.cell? ⟨g,j,none⟩=some u)
 (hl:xs.length+ys.length<=100000) (hB:B<=w.heap.size)
 (h:∀A w',OwB B w' A (xs++ys)->Gb B w w' v->wpList Tryz.prog ops Q rest (a.put o.dst A) w'):wpList Tryz.prog ops Q (o::rest) a w:=by
 obtain⟨A,w',hr,E,H⟩:=zgk9 B w o.type v xs hown g ys hg hl hB;refine wpList_plain O λ K I=>?_;unfold Oper.wp;simp[execOp,T,resolve,invoke,builtin,hs,hx,hr,Result.andThen];exact I _ _ (h A w' E H)
def zmb9(w:World)(I:o.guard=none)(s x:Operand)(O:o.op=.call { callee:=.builtin .append,args:=#[s,x],argTypes:=#[61,9] })
 (B:Nat) (v:Value) (xs:List Int) (hs:a.eval s=v) (hown:OwB B w v xs) (st:ByteArray) (hx:a.eval x=.string st)
 (hl:xs.length+st.size<=100000) (hB:B<=w.heap.size)
 (h:∀u w',OwB B w' u (xs++bts st)->Gb B w w' v->wpList Tryz.prog ops Q rest (a.put o.dst u) w'):wpList Tryz.prog ops Q (o::rest) a w:=by
 obtain⟨u,w',hr,A,E⟩:=zpb9 B w o.type v xs hown st hl hB;refine wpList_plain I λ K H=>?_;unfold Oper.wp;simp[execOp,O,resolve,invoke,builtin,hs,hx,hr,Result.andThen];exact H _ _ (h u w' A E)
def zpn9{w:World}{K:Act->World->Prop}{E:Prop}(O:o.guard=none)(s x:Operand)(T:o.op=.call { callee:=.builtin .append,args:=#[s,x],argTypes:=#[61,61] })
 (B:Nat) (v:Value) (xs:List Int) (hs:a.eval s=v) (hown:OwB B w v xs) (g:Nat) (ys:List Int) (hx:a.eval x=.slice (some ⟨g,0,none⟩) ys.length ys.length) (hg:∀j u,(ys.map (Value.int .u8))[j]?=some u->w.cell? ⟨g,j,none⟩=some u)
 (hl:xs.length+ys.length<=100000) (hB:B<=w.heap.size)
 (h:∀A w',OwB B w' A (xs++ys)->Gb B w w' v->K (a.put o.dst A) w'):
 if Region.wanted o (yielded ops a.tmps)=true then Oper.wp Tryz.prog o a w K Q else E:=by
 have Y:Region.wanted o (yielded ops a.tmps)=true:=by simp[Region.wanted,O]
 rw[if_pos Y];obtain⟨A,w',hr,H,I⟩:=zgk9 B w o.type v xs hown g ys hg hl hB;unfold Oper.wp;simp[execOp,T,resolve,invoke,builtin,hs,hx,hr,Result.andThen];exact h A w' H I
end
def zbf9(w:World)(ys:List Int)(j:Nat)(u:Value)(h:(ys.map (Value.int .u8))[j]?=some u):(w.alloc (.cells (ys.map (Value.int .u8)).toArray 5)).cell? ⟨w.heap.size,j,none⟩=some u:=by rw[cell_of_row _ w.heap.size j _ _ (0,0) (heap_alloc_new w _),List.getElem?_toArray];exact h
def blN(k:Int)(v:Value):Value:=.agg #[.int .i64 k,v]
theorem znl9:(Tryz.prog.info? 63).map (·.size)=some 2:=by kernel_rfl
def Kb(w:World)(b:Nat)(K:Int)(v:Value):Prop:=w.heap[b]?=some (.cells #[.int .i64 K,v] 63 (0,0))
section
variable {w w':World} {b:Nat} {K:Int} {v:Value}
def Kb.range(h:Kb w b K v):w.rangeAt b 0 [.int .i64 K,v]:=λ j u A=>by rw[Nat.zero_add,cell_of_row w b j _ _ (0,0) h,List.getElem?_toArray];exact A
def Kb.load(h:Kb w b K v):(loadVar 63 ⟨b,0,none⟩).run Tryz.prog w=.ok (blN K v) w:=
 run_loadVar_mid (P:=Tryz.prog) w b 0 63 [.int .i64 K,v] _ h.range Tryz.underlying63 rfl znl9
def Kb.c0(h:Kb w b K v):w.cell? ⟨b,0,none⟩=some (.int .i64 K):=by rw[cell_of_row w b 0 _ _ (0,0) h];rfl
def Kb.c1(h:Kb w b K v):w.cell? ⟨b,1,none⟩=some v:=by rw[cell_of_row w b 1 _ _ (0,0) h];rfl
def Kb.fz(h:Kb w b K v)(i:Nat):w.frozen? ⟨b,i,none⟩=false:=frozen_of_row w b i _ _ h
def Kb.lt(h:Kb w b K v):b<w.heap.size:=(zd0.1 h).1
def Kb.tch{S:Nat->Prop}(h:Kb w b K v)(A:Tch S w w')(u:¬S b):Kb w' b K v:=by unfold Kb;rw[A.block b h.lt u];exact h
def Kb.below(h:Kb w b K v)(u:Below w.heap.size w w'):Kb w' b K v:=h.tch (S:=λ _=>False) (Tch.of_below u) (λ e=>e)
def Kb.put(h:Kb w b K v)(J:Int)(u:Value):Kb ((w.setCell ⟨b,0,none⟩ (.int .i64 J)).setCell ⟨b,1,none⟩ u) b J u:=by have A:=heap_setCell_same w b 0 _ _ (.int .i64 J) h;have E:=heap_setCell_same _ b 1 _ _ u A;exact E
def Kb.s1(h:Kb w b K v)(u:Value):Kb (w.setCell ⟨b,1,none⟩ u) b K u:=heap_setCell_same w b 1 _ _ u h
def kb_new(w:World)(K:Int)(v:Value):Kb (w.alloc (.cells #[.int .i64 K,v] 63)) w.heap.size K v:=heap_alloc_new w _
def zhw9(w:World)(b:Nat)(u x1:Value):Tch (λ j=>j=b) w ((w.setCell ⟨b,0,none⟩ u).setCell ⟨b,1,none⟩ x1):=
 (tch_at w b 0 u).trans (tch_at _ b 1 x1) (λ _ _ e=>e)
end
def kdN(lf:Bool):Int:=if lf=true then 1 else 2
def RdS(n0:Nat)(w:World)(v:Value)(xs:List Int):Prop:=∀w',Below n0 w w'->Rd .u8 w' v xs
def RdS.rd{n0:Nat}{w:World}{v:Value}{xs:List Int}(h:RdS n0 w v xs):Rd .u8 w v xs:=h w (Below.refl _ _)
def RdS.below{n0:Nat}{w w':World}{v:Value}{xs:List Int}(h:RdS n0 w v xs)(A:Below n0 w w'):RdS n0 w' v xs:=λ E u=>h E (A.trans u)
def rdS_of{w:World}{v:Value}{xs:List Int}(h:Rd .u8 w v xs):RdS w.heap.size w v xs:=λ w' u=>h.below u
def zym9(w:World):Rd .u8 w (.slice none 0 0) []:=⟨none,0,rfl,zn6 _,by unfold maxLen;omega,λ _=>rfl,.inl rfl⟩
structure Sz(n0:Nat)(w:World)(g:Nat)(lv:Value)(t:List Int×Bool):Prop where
 blk:w.heap[g]?=some (.cells #[lv,.bool t.2] 235 (0,0))
 rs:RdS n0 w lv t.1
 bys:By t.1
 new:n0<=g
def SzX(n0:Nat)(w:World)(g:Nat)(t:List Int×Bool):Prop:=∃lv,Sz n0 w g lv t
section
variable {n0:Nat} {w w':World} {g:Nat} {lv:Value} {t:List Int×Bool}
def Sz.c0(h:Sz n0 w g lv t):w.cell? ⟨g,0,none⟩=some lv:=by rw[cell_of_row w g 0 _ _ (0,0) h.blk];rfl
def Sz.c1(h:Sz n0 w g lv t):w.cell? ⟨g,1,none⟩=some (.bool t.2):=by rw[cell_of_row w g 1 _ _ (0,0) h.blk];rfl
def Sz.fz(h:Sz n0 w g lv t)(j:Nat):w.frozen? ⟨g,j,none⟩=false:=frozen_of_row w g j _ _ h.blk
def Sz.lt(h:Sz n0 w g lv t):g<w.heap.size:=(zd0.1 h.blk).1
def Sz.tch{S:Nat->Prop}(h:Sz n0 w g lv t)(u:Tch S w w')(A:¬S g)(H:∀k,S k->n0<=k)(E:n0<=w.heap.size):Sz n0 w' g lv t:=
 ⟨by rw[u.block g h.lt A];exact h.blk,h.rs.below (u.below E H),h.bys,h.new⟩
def SzX.tch{S:Nat->Prop}(h:SzX n0 w g t)(H:Tch S w w')(u:¬S g)(E:∀k,S k->n0<=k)(A:n0<=w.heap.size):SzX n0 w' g t:=by obtain⟨lv,h⟩:=h;exact⟨lv,h.tch H u E A⟩
def SzX.lt(h:SzX n0 w g t):g<w.heap.size:=by obtain⟨lv,h⟩:=h;exact h.lt
def SzX.new(h:SzX n0 w g t):n0<=g:=by obtain⟨lv,h⟩:=h;exact h.new
def SzX.below(h:SzX n0 w g t)(u:Below w.heap.size w w'):SzX n0 w' g t:=h.tch (S:=λ _=>False) (Tch.of_below u) (λ e=>e) (λ _ e=>e.elim) (zn2 h.new (Nat.le_of_lt h.lt))
end
def takeZ(t:List Int×Bool)(m:Nat):List Int×(List Int×Bool):=if t.2=true\/t.1.length<m then([],(t.1,true))else(t.1.take m,(t.1.drop m,false))
section
variable {ops:Array Oper} {rest:List Oper} {o:Oper} {a:Act} {Q:Exit->Act->World->Prop}
def zjb9(w:World)(T:o.guard=none)(x l:Operand)(ho:o.op=.slice 61 x none (some l) none)(v:Value)(xs:List Int)(hv:a.eval x=v)(hr:Rd .u8 w v xs)(m:Nat)(Y:a.eval l=.int .i64 (m:Int))(hm:m<=xs.length)
 (h:∀I,(∀u,Rd .u8 u v xs->Rd .u8 u I (xs.take m))->wpList Tryz.prog ops Q rest (a.put o.dst I) w):wpList Tryz.prog ops Q (o::rest) a w:=by
 obtain⟨b,cap,H,a1,_⟩:=id hr;refine wpList_plain T λ K O=>?_;have a0:(Instr.sliceAt 61 (.slice b xs.length cap) none (some (.int .i64 (m:Int))) none).run Tryz.prog w=.ok (sliced b 0 m cap 1) w:=by rw[run_sliceAt_slice _ _ _ _ _ _ under8,run_slice_h _ _ _ _ _ under8 _ _ (by omega) (by omega),size8];simp[Result.andThen]
 unfold Oper.wp execOp;simp only[ho,hv,Y,H,Option.map_some,Option.map_none,Sem.run_bind,a0,Result.andThen_ok];refine O _ _ (h _ λ u A=>?_);rw[H]at A;have E:=zka9 A 0 m (zn7 _) hm;rw[List.drop_zero,Nat.sub_zero]at E;exact E
def zja9(w:World)(T:o.guard=none)(x l:Operand)(ho:o.op=.slice 61 x (some l) none none)(v:Value)(xs:List Int)(hv:a.eval x=v)(hr:Rd .u8 w v xs)(m:Nat)(Y:a.eval l=.int .i64 (m:Int))(hm:m<=xs.length)
 (h:∀I,(∀u,Rd .u8 u v xs->Rd .u8 u I (xs.drop m))->wpList Tryz.prog ops Q rest (a.put o.dst I) w):wpList Tryz.prog ops Q (o::rest) a w:=by
 obtain⟨b,cap,H,_⟩:=id hr;refine wpList_plain T λ K O=>?_;have a0:(Instr.sliceAt 61 (.slice b xs.length cap) (some (.int .i64 (m:Int))) none none).run Tryz.prog w=.ok (sliced b m xs.length cap 1) w:=by rw[run_sliceAt_slice _ _ _ _ _ _ under8,run_slice_l _ _ _ _ _ under8 _ _ (by omega) (by omega),size8];simp[Result.andThen]
 unfold Oper.wp execOp;simp only[ho,hv,Y,H,Option.map_some,Option.map_none,Sem.run_bind,a0,Result.andThen_ok];refine O _ _ (h _ λ u A=>?_);rw[H]at A;have E:=zka9 A m xs.length hm (zn6 _);rw[show(xs.drop m).take (xs.length-m)=xs.drop m by rw[zn5];rw[zj0];omega]at E;exact E
end
def By.dropN{xs:List Int}(h:By xs)(m:Nat):By (xs.drop m):=by intro i;rw[zn3,zu0,<-zn3];exact h _
def zfe9(n0 g:Nat)(t:List Int×Bool)(m:Nat)(w:World)(h:SzX n0 w g t)(hm:m<=9007199254740992):
 Calls Tryz.prog 186 #[.pointer (some ⟨g,0,none⟩),.int .i64 (m:Int)] w λ e w'=>∃A,e=.returned A/\RdS n0 w' A (takeZ t m).1/\SzX n0 w' g (takeZ t m).2/\Tch (λ k=>k=g) w w':=by
 obtain⟨lv,h⟩:=h;have H:=za0 h;obtain⟨a,cap,hv,a4,a5,_,_⟩:=h.rs.rd;have c0:=h.c0;have c1:=h.c1;have f0:=h.fz 0;have f1:=h.fz 1;obtain⟨u,K⟩:=t;obtain⟨L,hL⟩:=exH u.length;simp only at hv a4 c0 c1;rw[hL.o]at hv a4;subst hv;have aa:L<=9223372036854775807:=by unfold maxLen at a5;omega
 have E:Hid (takeZ (u,K) m=if K=true\/u.length<m then([],(u,true))else(u.take m,(u.drop m,false))):=rfl;rw[hL.o]at E;have a3:Hid (∀w',Tch (λ k=>k=g) w w'->Below n0 w w'):=λ w' I=>I.below (zn2 H.o.new (Nat.le_of_lt H.o.lt)) (λ k e=>by rw[e];exact H.o.new);have O:Hid (takeZ (u,K) m=([],(u,true))->∃A,Ending.returned (Value.slice none 0 0)=.returned A/\RdS n0 (w.setCell ⟨g,1,none⟩ (.bool true)) A (takeZ (u,K) m).1/\SzX n0 (w.setCell ⟨g,1,none⟩ (.bool true)) g (takeZ (u,K) m).2/\Tch (λ k=>k=g) w (w.setCell ⟨g,1,none⟩ (.bool true))):=λ e=>by
  have I:=tch_at w g 1 (.bool true);rw[e];exact⟨_,rfl,λ w' _=>zym9 w',⟨_,heap_setCell_same w g 1 _ _ (.bool true) H.o.blk,H.o.rs.below (a3.o _ I),H.o.bys,H.o.new⟩,I⟩
 clear h a5;cases K with
 | true=>
  have HB:=za0 (O.o (by rw[E.o,if_pos (.inl rfl)]));clear O E
  go_enter Tryz.func186,Tryz.ntmps186
  go_wp2_with fail;go_ret;exact HB.o
 | false=>
  by_cases a8:L<m
  .have a9:(L:Int)<(m:Int):=by omega
   have HB:=za0 (O.o (by rw[E.o,if_pos (.inr a8)]));clear O E
   go_enter Tryz.func186,Tryz.ntmps186
   go_wp2_with fail;go_ret;exact HB.o
  .have a9:(m:Int)<=(L:Int):=by omega
   (have ab:decide ((L:Int)<(m:Int))=false:=by rw[zn4];omega);(have a6:Hid (takeZ (u,false) m=(u.take m,(u.drop m,false))):=by show _=_;rw[E.o,if_neg (by simp;omega)]);(have a2:Hid (m<=u.length):=by show _<=_;rw[hL.o];omega);have a0:Hid (Rd .u8 w (.slice a L cap) u):=H.o.rs.rd;clear O E
   go_enter Tryz.func186,Tryz.ntmps186
   go_wp2_with(with_reducible (show wpList _ _ _ (Oper.mk _ (Op.slice _ _ none _ _) _ _ _ _::_) _ _);refine zjb9 _ rfl (.tmp 25) (.tmp 26) rfl (.slice a L cap) u ?h1 a0.o m ?h2 a2.o ?_;(case h1=>kernel_rfl);(case h2=>kernel_rfl))
   intro v1 h1;have H1:=za0 h1;clear h1;go_wp2_with(with_reducible (show wpList _ _ _ (Oper.mk _ (Op.slice _ _ (some _) _ _) _ _ _ _::_) _ _);refine zja9 _ rfl (.tmp 32) (.tmp 33) rfl (.slice a L cap) u ?h1 a0.o m ?h2 a2.o ?_;(case h1=>kernel_rfl);(case h2=>kernel_rfl))
   (intro v2 h2;obtain⟨T,Y,e2,_⟩:=h2 w a0.o;obtain⟨Q,a7⟩:=exH ((u.drop m).length);have H2:=za0 h2;rw[a7.o]at e2;subst e2;have HF:Hid (∃A,Ending.returned v1=.returned A/\RdS n0 (w.setCell ⟨g,0,none⟩ (.slice T Q Y)) A (takeZ (u,false) m).1/\SzX n0 (w.setCell ⟨g,0,none⟩ (.slice T Q Y)) g (takeZ (u,false) m).2/\Tch (λ k=>k=g) w (w.setCell ⟨g,0,none⟩ (.slice T Q Y))):=by have I:=tch_at w g 0 (.slice T Q Y);show∃_,_;rw[a6.o];have hb:=a3.o _ I;exact⟨_,rfl,λ w' a1=>H1.o w' (H.o.rs w' (hb.trans a1)),⟨_,heap_setCell_same w g 0 _ _ (.slice T Q Y) H.o.blk,λ w' a1=>H2.o w' (H.o.rs w' (hb.trans a1)),H.o.bys.dropN m,H.o.new⟩,I⟩);clear h2;go_wp2_with fail;go_ret;exact HF.o
def numZ(t:List Int×Bool):Int×(List Int×Bool):=((takeZ t 1).1.getD 0 0,(takeZ t 1).2)
def zkl9(t:List Int×Bool)(m:Nat):(takeZ t m).1.length=0\/(takeZ t m).1.length=m:=by
 unfold takeZ;split
 .exact .inl rfl
 .rename_i h;right;simp only[zg0];omega
def zit9{t:List Int×Bool}(h:By t.1)(m:Nat):By (takeZ t m).1:=by
 unfold takeZ;split
 .intro i;simp
 .exact h.take m
def zch9(n0 g:Nat)(t:List Int×Bool)(w:World)(h:SzX n0 w g t):
 Calls Tryz.prog 166 #[.pointer (some ⟨g,0,none⟩)] w λ e w'=>e=.returned (.int .i64 (numZ t).1)/\(0<=(numZ t).1/\(numZ t).1<=255)/\SzX n0 w' g (numZ t).2/\Tch (λ k=>k=g) w w':=by
 have H:=za0 h;have a0:Hid (By t.1):=by obtain⟨lv,h⟩:=h;exact h.bys
 have a1:=za0 (zit9 a0.o 1 0);obtain⟨r,hr⟩:=exH ((numZ t).1);have A:Hid (0<=r/\r<=255):=by rw[<-hr.o];exact a1.o
 rw[hr.o];clear h
 go_enter Tryz.func166,Tryz.ntmps166
 go_wp2_with fail;refine(zfe9 n0 g t 1 w H.o (by omega)).mono ?_;rintro e w1 ⟨rv,rfl,K,Q,O⟩;obtain⟨a,cap,E,h1,h2,h3,I⟩:=K.rd;have Y:Hid (SzX n0 w1 g (numZ t).2):=Q;have T:=za0 O;rcases zkl9 t 1 with u|u
 .rw[u]at E;subst E;have:(takeZ t 1).1=[]:=zh0 u;obtain rfl:r=0:=by rw[<-hr.o];unfold numZ;rw[this];rfl
  clear K Q O h1 h2 h3 I this;go_wp2_with fail;go_ret;exact⟨rfl,A.o,Y.o,T.o⟩
 .rw[u]at E h1;subst E;rcases I with I|⟨b,o,rfl,hc⟩
  .rw[I]at u;cases u
  have cc:w1.cell? ⟨b,o,none⟩=some (.int .u8 r):=by have:=hc 0 (by omega);rw[<-hr.o];exact this
  have a2:=A.o.1;have a3:=A.o.2;clear K Q O h2 h3 hc;go_wp2_with fail;go_ret;exact⟨rfl,A.o,Y.o,T.o⟩
def zpa9(w:World)(v:Value)(xs:List Int)(h:Rd .u8 w v xs):(convert 61 9 v).run Tryz.prog w=.ok (.string (strOfNums xs)) w:=by
 obtain⟨a,cap,rfl,O,Q,A,E⟩:=h;cases a with
 | none=>have:=A rfl;have K:xs=[]:=zh0 (by omega);subst K;exact run_convert_bytes_nil w 61 5 Tryz.underlying61 Tryz.underlying5 _ _ _ Tryz.underlying9
 | some x=>
  rcases E with rfl|⟨b,o,e,H⟩
  .rw[run_convert_bytes_string w 61 9 5 _ _ _ Tryz.underlying61 Tryz.underlying5 Tryz.underlying9];exact run_bytesToString w x 0 cap [] (run_loadCells_list (P:=Tryz.prog) w x [] (λ j u I=>by cases I))
  .cases e;exact run_convert_bytes_arg w 61 5 Tryz.underlying61 Tryz.underlying5 b o _ cap xs rfl H _ Tryz.underlying9
def txtZ(t:List Int×Bool):ByteArray×(List Int×Bool):=(strOfNums (takeZ (numZ t).2 (numZ t).1.toNat).1,(takeZ (numZ t).2 (numZ t).1.toNat).2)
def zff9(n0 g:Nat)(t:List Int×Bool)(w:World)(h:SzX n0 w g t):
 Calls Tryz.prog 167 #[.pointer (some ⟨g,0,none⟩)] w λ e w'=>e=.returned (.string (txtZ t).1)/\SzX n0 w' g (txtZ t).2/\Tch (λ k=>k=g) w w':=by
 have H:=za0 h;clear h;obtain⟨s,Y⟩:=exH ((txtZ t).1);rw[Y.o]
 go_enter Tryz.func167,Tryz.ntmps167
 go_wp2_with fail;refine(zch9 n0 g t w H.o).mono ?_;rintro e w1 ⟨rfl,hb,A,u⟩;obtain⟨m,E⟩:∃m:Nat,(numZ t).1=(m:Int):=⟨(numZ t).1.toNat,by omega⟩
 have O:Hid (txtZ t=(strOfNums (takeZ (numZ t).2 m).1,(takeZ (numZ t).2 m).2)):=by show _=_;unfold txtZ;rw[E];rfl
 have HM:Hid (m<=255):=by show _<=_;omega
 have X1:=za0 A;have T1:=za0 u;rw[E];clear hb A u E;go_wp2_with fail;refine(zfe9 n0 g (numZ t).2 m w1 X1.o (by have:=HM.o;omega)).mono ?_;rintro e K ⟨rv,rfl,I,A,u⟩;have a1:=zpa9 K rv _ I.rd;have T:strOfNums (takeZ (numZ t).2 m).1=s:=by rw[<-Y.o,O.o]
 rw[T]at a1;obtain⟨a,cap,Q,_⟩:=I.rd;obtain⟨LL,a0⟩:=exH ((takeZ (numZ t).2 m).1.length);rw[a0.o]at Q;subst Q;have HX:Hid (SzX n0 K g (txtZ t).2):=by rw[O.o];exact A
 have HT:Hid (Tch (λ k=>k=g) w K):=T1.o.trans u (λ _ _ e=>e);clear I A u T;go_wp2_with fail;go_ret;exact⟨rfl,HX.o,HT.o⟩
def zey9(B:Nat)(v:Value)(xs:List Int)(s:ByteArray)(w:World)(h:OwB B w v xs)(hl:xs.length<=90000)(hs:s.size<=24)(T:B<=w.heap.size):
 Calls Tryz.prog 179 #[v,.string s] w λ e w'=>(∃v',e=.returned v'/\OwB B w' v' (xs++((s.size:Int)::bts s)))/\Below B w w':=by
 have H:=za0 h;have a2:(s.size:Int)<=24:=by omega
 have a3:(0:Int)<=(s.size:Int):=by omega
 obtain⟨a,cap,rfl⟩:=h.long;have HL:Hid (xs.length + [(s.size:Int)].length<=100000):=by show _<=_;simp;omega
 have a0:Hid ((xs++[(s.size:Int)]).length+s.size<=100000):=by show _<=_;simp;omega
 have u:=za0 T;obtain⟨L,a1⟩:=exH xs.length;rw[a1.o]at H |-
 clear h hl T
 go_enter Tryz.func179,Tryz.ntmps179
 go_wp2_with(at_builtin;refine zel9 _ rfl (.tmp 5) (.tmp 9) rfl B _ xs rfl (H.o.below (za9 _ _)) w.heap.size [(s.size:Int)] rfl (zbf9 w [(s.size:Int)]) HL.o (by have:=u.o;simp;omega) ?_)
 intro v2 w2 Y O;have K:=za0 Y;have E:Hid (Below B w w2):=((za9 w _).mono u.o).trans (O.below (H.o.below (za9 _ _)) (by have:=u.o;simp;omega));have I:Hid (B<=w2.heap.size):=by have:=u.o;have h2:=E.o.size;show _<=_;omega
 clear Y O;go_wp2_with(at_builtin;refine zmb9 _ rfl (.tmp 11) (.tmp 12) rfl B _ _ rfl K.o s rfl a0.o I.o ?_)
 intro v3 w3 A Q;have O3:Hid (OwB B w3 v3 (xs++((s.size:Int)::bts s))):=by first|exact A|(have:=A;rw[zw0]at this;exact this)
 have B3:Hid (Below B w w3):=E.o.trans (Q.below K.o I.o);clear A Q;go_wp2_with fail;go_ret;exact⟨⟨_,rfl,O3.o⟩,B3.o⟩
