import Derived.Test.YtihofcopapmjlaaGreatPKOwn
import Derived.Shelf.SlIterI.Nil
import Derived.Shelf.SortM.Plain
import Derived.Shelf.SortM.SortNone
import Derived.Test.YtihofcopapmjlaaGreatPANew
import Derived.Great.BuildSlice
import Derived.Test.YtihofcopapmjlaaGreatPSLst
import Derived.Test.YtihofcopapmjlaaGreatPDMap
import Derived.Test.YtihofcopapmjlaaGreatPBSum
import Derived.Test.YtihofcopapmjlaaGreatPFCat
import Derived.Deep.Slices
import Derived.Test.YtihofcopapmjlaaGreatPPkBody
import Derived.WideKeyEntry
import Derived.Test.YtihofcopapmjlaaGreatPCkVw
set_option maxRecDepth 100000
set_option linter.all false
set_option maxHeartbeats 8000000
namespace Go.Proofs.YtihofcopapmjlaaGreat
open Go.Proofs.Tryz
section
open Go.RowKit Go.Maps
structure Cz(X S:Nat->Prop)(w:World)(c d N:Nat)(s:CS)(D:DS):Prop where
 ch:Ch X w c d N s
 dk:Dk S w d D
 len:D.L.length=N
 ap:∀k,X k->¬S k
def Qq(X S:Nat->Prop)(w w':World)(c d N:Nat)(s:CS)(D:DS):Prop:=
 ∃X' S',Cz X' S' w' c d N s D/\AD (λ k=>X k\/S k) w w'/\(∀k,X' k->X k\/w.heap.size<=k)/\(∀k,S' k->S k\/w.heap.size<=k)
section
variable {X S:Nat->Prop} {w w':World} {c d N:Nat} {s s':CS} {D D':DS}
def Cz.tch(h:Cz X S w c d N s D){R}(f:AD R w w')(r:∀k,X k->¬R k)(q:∀k,S k->¬R k):Cz X S w' c d N s D:=⟨h.ch.tch f r,h.dk.tch f q,h.len,h.ap⟩
def Cz.below(h:Cz X S w c d N s D)(f:Below w.heap.size w w'):Cz X S w' c d N s D:=h.tch (R:=λ _=>False) (AD.of_below f) (λ _ _ e=>e) (λ _ _ e=>e)
def Cz.chTo(h:Cz X S w c d N s D)(hc:DP X w w' c d N s'):Qq X S w w' c d N s' D:=by obtain⟨B,E,q,r⟩:=hc;refine⟨B,S,⟨E,h.dk.tch q (λ k f e=>h.ap k e f),h.len,λ k f A=>?_⟩,q.mono (λ k _ e=>.inl e),r,λ k e=>.inl e⟩;rcases r k f with e|e;exact h.ap k e A;have:=h.dk.slt k A;omega
end
end
section
open Go.RowKit
def JD(v:Value):Prop:=∃a n c,v=.slice a n c
def JD.one{v}(h:JD v):v.oneCell'=true:=by obtain⟨a,n,c,rfl⟩:=h;rfl
section
variable {o:Oper} {a:Act} {w:World} {K:Act->World->Prop} {Q:Exit->Act->World->Prop}
end
def RdL(w:World)(v:Value)(rows:List (List Int)):Prop:=
 ∃a cap,v=.slice a rows.length cap/\rows.length<=cap/\cap<=maxLen/\(rows=[]\/∃b o,a=some ⟨b,o,none⟩/\∀i,i<rows.length->∃u,w.cell? ⟨b,o+i,none⟩=some u/\Rd .u8 w u (rows.getD i []))
section
variable {E:Nat->Prop} {w w':World} {v:Value} {rows:List (List Int)}
def rdL_nil(w):RdL w (.slice none 0 0) []:=⟨none,0,rfl,AE _,by omega,.inl rfl⟩
end
end
section
open Go.RowKit Go.Maps Go.WideMaps
def AS(ds:List Int):List Int:=(List.range 32).map λ i=>(Km ds i:Int)
def Ez(f):(AS f).length=32:=by simp[AS]
def AIE{x}(h:0<=x/\x<=255):(Lit.int .u8 x).wf=true:=by simp[Lit.wf,IntKind.min,IntKind.max,IntKind.signed,IntKind.bits];omega
def IV(q):∀x∈AS q,(Lit.int .u8 x).wf=true:=by intro x f;simp only[AS,List.mem_map]at f;obtain⟨i,_,rfl⟩:=f;refine AIE ⟨Int.natCast_nonneg _,?_⟩;unfold Km Ga;omega
def AFq(f):Ag .u8 32 (Km f)=(AS f).map (Value.int .u8):=by simp[Ag,AS]
def FJ(g:List Int):Value:=.agg (g.map (Value.int .u8)).toArray
def Dh(g:List Int):Lit:=.string (keyBytes (g.map (Lit.int .u8)))
def OJ:ArrKey prog 81 5 32:=⟨underlying81,by kernel_rfl,by kernel_rfl,by kernel_rfl⟩
def Os:Keyed prog 81:=Keyed.of_law OJ.law
def Tx{α β:Type}(f:α->Option β)(g:α->β):∀l:List α,(∀x∈l,f x=some (g x))->l.mapM f=some (l.map g)
 | [],_=>rfl
 | a::r,h=>by rw[List.mapM_cons,h a (by simp),Tx f g r (λ x q=>h x (by simp[q]))];rfl
def SR{α:Type}:∀l:List α,(l.map λ x=>[x]).flatten=l
 | []=>rfl
 | a::r=>by simp[SR r]
def QY:∃m,prog.types.size=m+1:=⟨prog.types.size-1,by have:0<prog.types.size:=of_decide_eq_true (by kernel_rfl);omega⟩
def MS{g}(q:g.length=32)(I:∀x∈g,(Lit.int .u8 x).wf=true):keyOf prog 81 (FJ g)=some (Dh g):=by
 have A:=OJ;have B:=A.keyType QY;obtain⟨m,E⟩:=QY;unfold keyOf FJ;simp only[A.hu];rw[if_pos (by simp[B,Value.formed,A.hu,A.size,q]),E];unfold Program.keyLits;simp only[A.hu,Value.cells];rw[if_pos (by rw[A.size];grind)];rw[Tx _ (λ i=>[Lit.int .u8 (g.getD i 0)]) (List.range 32) (λ i f=>?_)]
 .have e:(List.range 32).map (λ i=>[Lit.int .u8 (g.getD i 0)])=(g.map (Lit.int .u8)).map λ x=>[x]:=by
   refine List.ext_getElem (by simp[q]) (λ i J K=>?_)
   grind
  rw[e,Option.map_some,SR];rfl
 .have f:i<g.length:=by grind
  have r:=I g[i] (zt0 f);rw[A.one,Nat.mul_one];have e:((g.map (Value.int .u8)).toArray.toList.drop i).take 1=[Value.int .u8 g[i]]:=by rw[List.toList_toArray,List.drop_eq_getElem_cons (by grind)];simp
  rw[e];simp[Program.keyLits,underlying5,r,f]
def Oq{g f}(q:g.length=32)(A:∀x∈g,(Lit.int .u8 x).wf=true)(r:f.length=32)(B:∀x∈f,(Lit.int .u8 x).wf=true)(h:Dh g=Dh f):g=f:=by have:=Os.inj (MS q A) (by rw[h];exact MS r B);simp only[FJ,Value.agg.injEq]at this;have:=congrArg Array.toList this;exact(List.map_inj_right (λ a b e=>by grind)).1 this
def Re(b n:Int):Value:=.agg #[.int .i64 b,.int .i64 n]
def IE(b n:Int):Lit:=.string (keyBytes [.int .i64 b,.int .i64 n])
def TY:Keyed prog 28:=Keyed.of_law (deep_law (m:=2) (by omega) (by kernel_rfl) (by kernel_rfl) (by rw[underlying28]))
def ABk{b n}(f:(Lit.int .i64 b).wf=true)(r:(Lit.int .i64 n).wf=true):keyOf prog 28 (Re b n)=some (IE b n):=by
 have A:prog.keyType 28=true:=by kernel_rfl
 have hc:prog.cellsOf 28=2:=by kernel_rfl
 have q:prog.cellsOf 3=1:=by kernel_rfl
 obtain⟨m,B⟩:=QY;unfold keyOf Re;simp only[underlying28];rw[if_pos (by simp[A,Value.formed,underlying28,hc]),B];unfold Program.keyLits;simp only[underlying28,Value.cells];rw[if_pos (by grind)];simp[Program.keyLits,underlying3,f,r,q,List.mapM_cons,IE]
end
section
open Go.RowKit Pl Go.ChangeShapes Go.WideShapes
section
variable {H:Type} {enc:TypeId×Value->H} {W:World} {base:Nat} {spare:Nat->Bool} {held:Bool}
def ADh{fuel cs x}(h:DataW.trod enc prog W base spare held fuel 40 cs=some x):
 ∃u ys,cs=[u]/\Rd .u8 W u ys/\By ys/\(ys=[]\/∃r fs,x.1=.slice r fs/\ys.length<=r.length+fs.length):=by
 rcases open_ints underlying40 underlying5 (by kernel_rfl) h with⟨q,_⟩|⟨a,l,c,f,q,_,J,K,X,U,B,T⟩
 .exact⟨.slice none 0 0,[],q,⟨none,0,rfl,AE _,by unfold maxLen;omega,λ _=>rfl,.inl rfl⟩,Im (by simp),.inl rfl⟩
 .have a0:l<=f.length:=by rw[X];split<;>omega
  have e:(f.take l).length=l:=by rw[zd0];omega
  refine⟨.slice (some a) l c,f.take l,q,⟨some a,c,by rw[e],by rw[e];exact J,K,(λ e=>by cases e),?_⟩,YK (λ n L=>T n (List.mem_of_mem_take L)),.inr ⟨lits .u8 (f.take l),lits .u8 (f.drop l),by rw[U],?_⟩⟩;by_cases E:l=0;left;rw[E];rfl;right;obtain⟨b,Y,Z⟩:=a;have hc:=B 0 (by omega);(have O:Z=none:=by simpa[Addr.add]using World.cell?_spot hc);subst O;refine⟨b,Y,rfl,λ i I=>?_⟩;(have hi:i<l:=by have A:i<(f.take l).length:=I;rw[e]at A;exact A);have:=B i (by omega);rw[Addr.add_lit]at this;rw[this,AP,AP,zq0,if_pos (by omega)];simp only[lits,zu0];omega
def Wj{P:Program}{e:TypeId}:∀{l:List (DataW H)} {d:DataW H},d∈l->∀n∈d.weights P e,n∈DataW.weightsAll P e l
 | d0::l,d,hd,n,hn=>by simp only[DataW.weightsAll,zf0];rcases List.mem_cons.1 hd with e|e;subst e;exact .inl hn;exact .inr (Wj e n hn)
def rows_open{fuel cs x}(h:DataW.trod enc prog W base spare held fuel 22 cs=some x):
 (cs=[.slice none 0 0]/\x.1=.nil)\/∃a q cap ps r fs,cs=[.slice (some a) q cap]/\ps.length=q/\RdL W (.slice (some a) q cap) ps/\(∀y∈ps,By y)/\x.1=.slice r fs/\r.length=q/\
  ((∀n∈x.1.weights prog 22,n<=reachBytes)->∀y∈ps,y.length<=reachBytes):=by
 rcases Go.Deep.open_slice underlying22 h with⟨B,K⟩|⟨a,q,cap,m,n,D,Pl,rfl,hb,hl,hm,a3,rfl,hx⟩
 .exact .inl ⟨B,by rw[K]⟩
 .right;have c1:prog.cellsOf 40=1:=by kernel_rfl
  have ab:q<=m:=by rw[a3];split<;>omega
  have Z:∀i,i<q->∃p:Value×List Int,W.cell? (a.add i)=some p.1/\Rd .u8 W p.1 p.2/\By p.2/\(p.2=[]\/∃r fs,D i=.slice r fs/\p.2.length<=r.length+fs.length):=by intro i A;obtain⟨a8,B,K⟩:=hx i (by omega);rw[c1]at B;obtain⟨_,aa,a1⟩:=World.cells?_some B;obtain⟨u,ys,rfl,O,X,J⟩:=ADh K;have U:=a1 0 (by omega);rw[Go.Deep.add_add]at U;exact⟨(u,ys),by simpa using U,O,X,J⟩
  have a9:Inhabited (Value×List Int):=⟨(.slice none 0 0,[])⟩
  obtain⟨f,E⟩:=Go.Deep.choose_lt (α:=Value×List Int) Z;refine⟨a,q,cap,(List.range q).map λ i=>(f i).2,_,_,rfl,by simp,?_,?_,rfl,by simp,?_⟩;refine⟨some a,cap,by simp,by simpa using hl,hm,?_⟩;by_cases h0:q=0;left;rw[h0];rfl;right;obtain⟨b,a6,a7⟩:=a;(have a4:a7=none:=by simpa[Addr.add]using World.cell?_spot (E 0 (by omega)).1);subst a4;refine⟨b,a6,rfl,λ i A=>?_⟩;(have I:i<q:=by simpa using A);obtain⟨T,O,X,J⟩:=E i I;rw[Addr.add_lit]at T;refine⟨(f i).1,T,?_⟩;rw[AP,zw0,List.getElem?_range I];exact O;intro y L;obtain⟨i,A,rfl⟩:=List.mem_map.1 L;exact(E i (by simpa using A)).2.2.1
  .intro hw y L;obtain⟨i,A,rfl⟩:=List.mem_map.1 L;(have I:i<q:=by simpa using A);obtain⟨_,_,_,J⟩:=E i I;rcases J with e|⟨r,fs,Y,e2⟩
   .rw[e];exact AI _
   .have a0:prog.bytesOf 5=1:=by kernel_rfl
    have a2:D i∈(List.range q).map D:=List.mem_map.2 ⟨i,A,rfl⟩;have a5:=Wj (P:=prog) (e:=40) a2 ((r.length+fs.length)*prog.bytesOf 5) (by rw[Y];simp[DataW.weights,underlying40]);have:=hw ((r.length+fs.length)*prog.bytesOf 5) (by simp only[DataW.weights,underlying22,List.mem_cons,zf0];exact .inr (.inl a5));rw[a0]at this;omega
end
end
section
open Go.RowKit Go.Maps Go.WideMaps
def Eo(K:List Ce)(g:List Int):List (Int×Int):=(K.filter λ e=>decide (AS e.ds=g)).map λ e=>(e.b,(e.ds.length:Int))
def Gn(g:List Int)(v:Value):Value:=.agg (g.map (Value.int .u8)++[v]).toArray
def gS(K:List Ce)(SV:Int->Value)(i:Nat):Option Value:=(K.find? λ e=>decide (e.b=(i:Int))).map λ e=>Gn (AS e.ds) (SV e.b)
def ADu{P k}{w:World}{b n D}(h:w.ownsMap P k Rv b n D)(K:Keyed P k)(L:List Lit)(O:∀l,Maps.has D l=true->l∈L):w.ownsMap P k Rv b L.length D:=by
 obtain⟨q,A,B,_⟩:=h.entries K;have T:(q.map (·.1)).Nodup:=by grind
 have Y:∀l∈q.map (·.1),l∈L:=λ l W=>by
  obtain⟨p,B,rfl⟩:=List.mem_map.1 W;have U:WideAt.IsKeyLit p.1:=by grind
  refine O p.1 ?_;rw[A,has_eq,List.any_eq_true];exact⟨p,B,WideAt.sameKey_self U⟩
 have X:=T.length_le_of_subset Y;rw[zu0]at X;obtain⟨r,E,I,J,h3,f⟩:=h;refine⟨r,E,I,J,?_,f⟩;rw[A]at f;simp only[DataW.map.injEq]at f;have Z:q.length=r.size:=by rw[f,length_sorted,zu0,Array.length_toList]
 omega
def Zx{P k e t w b n D}(K:KeyLaw P k)(B:P.underlying t=some (.map k e)){z}(I:∀u,(zeroValue e).run P u=.ok z u)(h:w.ownsMap P k Rv b n D)(hn:n<maxLen){key J}(A:keyOf P k key=some J):
 ∃(E:Value)(st:Nat)(L:World),(Instr.mapEntry t (.map (some b)) key).run P w=.ok (.tuple #[E,goInt st]) L/\D.atKey J (.held z)=.held E/\AD (λ j=>j=b) w L/\
  ∀q val,q.heap[b]?=L.heap[b]?->∃O,(Instr.entryStore t (.map (some b)) (goInt st) val).run P q=.ok () O/\O.ownsMap P k Rv b (n+1) (D.put J (.held val))/\AD (λ j=>j=b) q O:=by
 have U:=h;obtain⟨T,a1,r,F,hs,hD⟩:=h;have a0:∀(u:World)(o f:Obj),u.heap[b]?=some o->AD (λ j=>j=b) u (Go.ChangeMaps.setBlock u b f):=λ u o f Y=>by
  refine⟨rfl,rfl,rfl,by simp[Go.ChangeMaps.setBlock],λ j hj aa=>?_⟩;show(u.heap.setIfInBounds b f)[j]?=_
  grind
 have ad:∀(u:World)(o f:Obj),u.heap[b]?=some o->(Go.ChangeMaps.setBlock u b f).heap[b]?=some f:=λ u o f Y=>by have:=(za0.1 Y).1;show(u.heap.setIfInBounds b f)[b]?=_;simp[this]
 obtain⟨E,st,a4,a2,ac,hv,ae⟩:=Go.WideElems.entry_then_store K B I r F A;refine⟨E,st,_,ac,?_,a0 w _ _ r,λ q val ak=>?_⟩
 .obtain⟨v,ps,hl,hR⟩:=U.lookup (Keyed.of_law K) B (I w) (zd:=.held z) (zp:=[]) rfl A;have a9:T.toList.Pairwise (λ x y=>x.key≠y.key):=((Go.MapKept.stamped_iff T a1).1 F.stamped).2.2;rcases Maps.fit_look false (Keyed.of_law K) B (I w) r F A with⟨_,ab,W⟩|⟨e0,y,a7,ai,_,a6,W,_⟩
  .grind
  .rcases hv with⟨e1,a8,aj,rfl⟩|⟨ab,_⟩
   .have:e1=e0:=Classical.byContradiction λ aa=>by
     have hg:=List.pairwise_iff_getElem.1 a9;obtain⟨i,hi,rfl⟩:=List.getElem_of_mem a8;obtain⟨j,hj,rfl⟩:=List.getElem_of_mem a7
     grind
    subst this;rw[hD,W];simp only[Rv,Option.some.injEq]at a6
    grind
   grind
 .have X:q.heap[b]?=some (.map a4 a2):=by grind
  obtain⟨ag,af,r1,r2⟩:=ae q val X;obtain⟨w',q1,Z,_⟩:=U.update (Keyed.of_law K) B hn A (val:=val) (d:=.held val) (ps:=[]) rfl;have e:=r2.symm.trans q1;simp only[Result.ok.injEq,true_and]at e;refine⟨_,r1,?_,a0 q _ _ X⟩;rw[<-e]at Z;obtain⟨a5,a3,g1,g2,g3,g4⟩:=Z;rw[ad w _ _ r]at g1;exact⟨a5,a3,by grind,g2,g3,g4⟩
structure NQ(w:World)(kb:Nat)(K:List Ce)(Kv:List Int->Value)(D:DataW Value):Prop where
 own:w.ownsMap prog 81 Rv kb K.length D
 has:∀l,Maps.has D l=true->∃e∈K,l=Dh (AS e.ds)
 at_:∀e∈K,Maps.has D (Dh (AS e.ds))=true/\∀z,D.atKey (Dh (AS e.ds)) z=.held (Kv (AS e.ds))
 row:∀e∈K,Bv w (Kv (AS e.ds)) (Eo K (AS e.ds))
 ap:∀e∈K,∀f∈K,AS e.ds≠AS f.ds->∀k,(Kv (AS e.ds)).ownBlock=some k->(Kv (AS f.ds)).ownBlock≠some k
structure GY(Z:Nat->Prop)(w:World)(N kb sb ub:Nat)(K:List Ce)(Kv:List Int->Value)(D:DataW Value)(SV:Int->Value)(E:DataW Value):Prop where
 kn:NQ w kb K Kv D
 sm:Mp w sb N (gS K SV)
 sr:∀e∈K,Rd .i64 w (SV e.b) e.bl
 um:w.ownsMap prog 28 Rv ub K.length E
 uh:∀l,Maps.has E l=true->∃e∈K,l=IE e.b e.ds.length
 ne:kb≠sb/\kb≠ub/\sb≠ub
 zm:Z kb/\Z sb/\Z ub
 zk:∀e∈K,∀k,(Kv (AS e.ds)).ownBlock=some k->Z k
 zs:∀e∈K,∀k,(SV e.b).ownBlock=some k->Z k/\∀f∈K,(Kv (AS f.ds)).ownBlock≠some k
 zl:∀k,Z k->k<w.heap.size
 nd:(K.map (·.b)).Nodup
 bd:∀e∈K,0<=e.b/\e.b<N/\e.bl≠[]
 n2:N<=4096
def Kz(Z:Nat->Prop)(w:World)(N kb sb ub:Nat)(K:List Ce):Prop:=∃Kv D SV E,GY Z w N kb sb ub K Kv D SV E
section
variable {Z:Nat->Prop} {w w':World} {N kb sb ub:Nat} {K:List Ce} {Kv:List Int->Value} {D E:DataW Value} {SV:Int->Value}
def EP{P k b n D}(h:w.ownsMap P k Rv b n D){S}(B:AD S w w')(r:¬S b):w'.ownsMap P k Rv b n D:=by have A:=h.lt;obtain⟨q,f,E,I⟩:=h;exact⟨q,f,by rw[B.block b A r];exact E,I⟩
def GY.tch(h:GY Z w N kb sb ub K Kv D SV E){R:Nat->Prop}(f:AD R w w')(A:∀k,Z k->¬R k):GY Z w' N kb sb ub K Kv D SV E where
 kn:=⟨EP h.kn.own f (A _ h.zm.1),h.kn.has,h.kn.at_,λ e q=>(h.kn.row e q).tch f (λ k r=>A k (h.zk e q k r)),h.kn.ap⟩
 sm:=h.sm.tch f (A _ h.zm.2.1)
 sr:=λ e q=>(h.sr e q).tch f (λ k r=>A k (h.zs e q k r).1)
 um:=EP h.um f (A _ h.zm.2.2)
 uh:=h.uh
 ne:=h.ne
 zm:=h.zm
 zk:=h.zk
 zs:=h.zs
 zl:=λ k r=>Ao (h.zl k r) f.size
 nd:=h.nd
 bd:=h.bd
 n2:=h.n2
def Kz.tch(h:Kz Z w N kb sb ub K){R}(q:AD R w w')(f:∀k,Z k->¬R k):Kz Z w' N kb sb ub K:=by obtain⟨Kv,D,SV,E,h⟩:=h;exact⟨Kv,D,SV,E,h.tch q f⟩
def Kz.lt(h:Kz Z w N kb sb ub K):∀k,Z k->k<w.heap.size:=by obtain⟨_,_,_,_,h⟩:=h;exact h.zl
def GY.few(h:GY Z w N kb sb ub K Kv D SV E):K.length<=4096:=by
 have q:∀x∈K.map (·.b),x∈(List.range N).map Int.ofNat:=λ x r=>by obtain⟨e,f,rfl⟩:=List.mem_map.1 r;have:=h.bd e f;exact List.mem_map.2 ⟨e.b.toNat,by simp;omega,by grind⟩
 have:=h.nd.length_le_of_subset q;have:=h.n2
 grind
end
end
section
open Go.RowKit Go.Maps
def JP(f:Int->Bool)(x:Int)(y:Bool)(m:Int):Bool:=if m=x then y else f m
def gF(F:Int->Bool)(i:Nat):Option Value:=if F (i:Int)=true then some (.agg #[])else none
section
variable {w:World} {b n:Nat} {F:Int->Bool}
def Mp.putT(h:Mp w b n (gF F)){x:Int}(A:0<=x)(B:x<n)(I:n<=65536):
 ∃w',(Instr.mapUpdate 87 (.map (some b)) (.int .i64 x) (.agg #[])).run prog w=.ok () w'/\Mp w' b n (gF (JP F x true))/\AD (λ k=>k=b) w w':=by
 obtain⟨i,rfl⟩:∃i:Nat,x=i:=⟨x.toNat,by omega⟩
 obtain⟨w',q,f,r⟩:=World.ownsMap.update (val:=.agg #[]) (d:=.held (.agg #[])) (ps:=[]) h GE underlying87 (by unfold maxLen;omega) (KQ (i:=i) (by omega)) rfl;refine⟨w',q,(Iy f (ON (by omega) _ (f.canon GE))).congr (λ j E=>?_),(AD.of_grown r).mono (λ k _ e=>by grind)⟩;unfold Df gF JP
 grind
end
def AAP(x){xs}(h:By xs):By (Go.Proofs.YtihofcopapmjlaaGreat.getB x xs).2:=by
 unfold Go.Proofs.YtihofcopapmjlaaGreat.getB;split;exact No h 8 _
 .exact λ i=>by simp
def UB{n k l}(h:BI n k l=true):l<=240:=by
 unfold BI at h
 grind
def AAQ(x xs):(Go.Proofs.YtihofcopapmjlaaGreat.getB x xs).2.length<=240:=by unfold Go.Proofs.YtihofcopapmjlaaGreat.getB;split;rename_i h;unfold getE at h;split at h;cases h;split at h;cases h;split at h;rename_i h2;exact UB h2.1;cases h;simp
structure LR(N:Nat)(a:Ab)(s:CS)(D:DS):Prop where
 lo:a.A.lo=50
 hi:50+a.A.L.length=N
 fr:∀x,a.F x=true->50<=x/\x<N
 v:a.V=FV s D
 q:a.Q=LF D
 co:FD s D
 dc:D.c=false
 dv:∀i,(D.V i).length<=a.n
structure Ar(U:Nat->Prop)(w:World)(t c d M N:Nat)(a:Ab)(kb sb fb ub:Nat)(X S Y Z:Nat->Prop)(s:CS)(D:DS):Prop where
 box:w.heap[t]?=some (.cells #[cp c,mp M,.map (some kb),.map (some sb),.map (some fb),.map (some ub)] 90 (0,0))
 cz:Cz X S w c d N s D
 pm:Pm w M a.A Y
 kz:Kz Z w N kb sb ub a.K
 fm:Mp w fb N (gF a.F)
 xy:∀k,X k->¬Y k
 sy:∀k,S k->¬Y k
 xz:∀k,X k->¬Z k
 sz:∀k,S k->¬Z k
 yz:∀k,Y k->¬Z k
 nt:¬X t/\¬S t/\¬Y t/\¬Z t
 nf:¬X fb/\¬S fb/\¬Y fb/\¬Z fb
 ux:∀k,(X k\/S k\/Y k\/Z k\/k=t\/k=fb)->U k
 ul:∀k,U k->k<w.heap.size
 ok:LR N a s D
abbrev AW(t:Nat):Value:=.pointer (some ⟨t,0,none⟩)
def Sz(U:Nat->Prop)(w:World)(t c d M N:Nat)(a:Ab):Prop:=∃kb sb fb ub X S Y Z s D,Ar U w t c d M N a kb sb fb ub X S Y Z s D
def G6(U:Nat->Prop)(w w':World)(t c d M N:Nat)(a:Ab):Prop:=∃U',Sz U' w' t c d M N a/\AD U w w'/\∀k,U' k->U k\/w.heap.size<=k
section
variable {U X S Y Z:Nat->Prop} {w w':World} {t c d M N kb sb fb ub:Nat} {a a':Ab} {s s':CS} {D D':DS}
def Ar.c0(h:Ar U w t c d M N a kb sb fb ub X S Y Z s D):w.cell? ⟨t,0,none⟩=some (cp c):=by rw[cell_of_row w t 0 _ _ (0,0) h.box];rfl
def Ar.c1(h:Ar U w t c d M N a kb sb fb ub X S Y Z s D):w.cell? ⟨t,1,none⟩=some (mp M):=by rw[cell_of_row w t 1 _ _ (0,0) h.box];rfl
def Ar.c2(h:Ar U w t c d M N a kb sb fb ub X S Y Z s D):w.cell? ⟨t,2,none⟩=some (.map (some kb)):=by rw[cell_of_row w t 2 _ _ (0,0) h.box];rfl
def Ar.c3(h:Ar U w t c d M N a kb sb fb ub X S Y Z s D):w.cell? ⟨t,3,none⟩=some (.map (some sb)):=by rw[cell_of_row w t 3 _ _ (0,0) h.box];rfl
def Ar.c4(h:Ar U w t c d M N a kb sb fb ub X S Y Z s D):w.cell? ⟨t,4,none⟩=some (.map (some fb)):=by rw[cell_of_row w t 4 _ _ (0,0) h.box];rfl
def Ar.c5(h:Ar U w t c d M N a kb sb fb ub X S Y Z s D):w.cell? ⟨t,5,none⟩=some (.map (some ub)):=by rw[cell_of_row w t 5 _ _ (0,0) h.box];rfl
def Ar.lt(h:Ar U w t c d M N a kb sb fb ub X S Y Z s D):t<w.heap.size:=(za0.1 h.box).1
def Ar.ne(h:Ar U w t c d M N a kb sb fb ub X S Y Z s D):t≠fb:=λ e=>h.fm.notCells (by rw[<-e];exact h.box)
def Ar.tch(h:Ar U w t c d M N a kb sb fb ub X S Y Z s D){R:Nat->Prop}(r:AD R w w')(q:∀k,U k->¬R k):Ar U w' t c d M N a kb sb fb ub X S Y Z s D where
 box:=by rw[r.block t h.lt (q t (h.ux t (.inr (.inr (.inr (.inr (.inl rfl)))))))];exact h.box
 cz:=h.cz.tch r (λ k f=>q k (h.ux k (.inl f))) (λ k f=>q k (h.ux k (.inr (.inl f))))
 pm:=h.pm.tch r (λ k f=>q k (h.ux k (.inr (.inr (.inl f)))))
 kz:=h.kz.tch r (λ k f=>q k (h.ux k (.inr (.inr (.inr (.inl f))))))
 fm:=h.fm.tch r (q fb (h.ux fb (.inr (.inr (.inr (.inr (.inr rfl)))))))
 xy:=h.xy
 sy:=h.sy
 xz:=h.xz
 sz:=h.sz
 yz:=h.yz
 nt:=h.nt
 nf:=h.nf
 ux:=h.ux
 ul:=λ k f=>Ao (h.ul k f) r.size
 ok:=h.ok
def Sz.tch(h:Sz U w t c d M N a){R}(q:AD R w w')(f:∀k,U k->¬R k):Sz U w' t c d M N a:=by obtain⟨kb,sb,fb,ub,X,S,Y,Z,s,D,h⟩:=h;exact⟨kb,sb,fb,ub,X,S,Y,Z,s,D,h.tch q f⟩
def Sz.below(h:Sz U w t c d M N a)(f:Below w.heap.size w w'):Sz U w' t c d M N a:=h.tch (R:=λ _=>False) (AD.of_below f) (λ _ _ e=>e)
def Sz.ul(h:Sz U w t c d M N a):∀k,U k->k<w.heap.size:=by obtain⟨_,_,_,_,_,_,_,_,_,_,h⟩:=h;exact h.ul
def Sz.c0(h:Sz U w t c d M N a):w.cell? ⟨t,0,none⟩=some (cp c):=by obtain⟨_,_,_,_,_,_,_,_,_,_,h⟩:=h;exact h.c0
def Sz.c1(h:Sz U w t c d M N a):w.cell? ⟨t,1,none⟩=some (mp M):=by obtain⟨_,_,_,_,_,_,_,_,_,_,h⟩:=h;exact h.c1
def Sz.n2(h:Sz U w t c d M N a):N<=4096:=by obtain⟨_,_,_,_,_,_,_,_,_,_,h⟩:=h;exact h.cz.ch.n2
def Sz.lo(h:Sz U w t c d M N a):a.A.lo=50/\50+a.A.L.length=N:=by obtain⟨_,_,_,_,_,_,_,_,_,_,h⟩:=h;exact⟨h.ok.lo,h.ok.hi⟩
def Sz.sok(h:Sz U w t c d M N a):Ah.SokA a.A:=by obtain⟨_,_,_,_,_,_,_,_,_,_,h⟩:=h;exact h.pm.ok
def Ar.czAt(h:Ar U w t c d M N a kb sb fb ub X S Y Z s D){r S'}(J:Cz r S' w' c d N s' D')(B:AD (λ k=>X k\/S k) w w')(h3:∀k,r k->X k\/w.heap.size<=k)(h4:∀k,S' k->S k\/w.heap.size<=k)(ho:LR N a' s' D')(hA:a'.A=a.A)(hF:a'.F=a.F)(hK:a'.K=a.K):
 Sz (λ k=>U k\/r k\/S' k) w' t c d M N a'/\AD U w w'/\∀k,(U k\/r k\/S' k)->U k\/w.heap.size<=k:=by
 have hU:∀k,X k\/S k->U k:=λ k f=>h.ux k (f.elim .inl (λ e=>.inr (.inl e)));have a0:=h.ul;have a1:=B.size;have I:∀k,k<w.heap.size->¬X k->¬r k:=λ k f L e=>(h3 k e).elim L (λ e=>by omega);have E:∀k,k<w.heap.size->¬S k->¬S' k:=λ k f L e=>(h4 k e).elim L (λ e=>by omega);have O:∀k,Y k->k<w.heap.size:=λ k f=>a0 k (h.ux k (.inr (.inr (.inl f))));have T:∀k,Z k->k<w.heap.size:=λ k f=>a0 k (h.ux k (.inr (.inr (.inr (.inl f)))));have W:fb<w.heap.size:=h.fm.lt;refine⟨⟨kb,sb,fb,ub,r,S',Y,Z,s',D',?_⟩,B.mono (λ k _ e=>hU k e),λ k f=>?_⟩
 .exact{
   box:=by rw[B.block t h.lt (λ e=>e.elim h.nt.1 h.nt.2.1)];exact h.box
   cz:=J
   pm:=by rw[hA];exact h.pm.tch B (λ k f e=>e.elim (λ e=>h.xy k e f) (λ e=>h.sy k e f))
   kz:=by rw[hK];exact h.kz.tch B (λ k f e=>e.elim (λ e=>h.xz k e f) (λ e=>h.sz k e f))
   fm:=by rw[hF];exact h.fm.tch B (λ e=>e.elim h.nf.1 h.nf.2.1)
   xy:=λ k f q=>I k (O k q) (λ e=>h.xy k e q) f
   sy:=λ k f q=>E k (O k q) (λ e=>h.sy k e q) f
   xz:=λ k f q=>I k (T k q) (λ e=>h.xz k e q) f
   sz:=λ k f q=>E k (T k q) (λ e=>h.sz k e q) f
   yz:=h.yz
   nt:=⟨I t h.lt h.nt.1,E t h.lt h.nt.2.1,h.nt.2.2⟩
   nf:=⟨I fb W h.nf.1,E fb W h.nf.2.1,h.nf.2.2⟩
   ux:=λ k f=>by
    rcases f with e|e|e
    .grind
    .grind
    .exact .inl (h.ux k (.inr (.inr e)))
   ul:=λ k f=>by
    rcases f with e|e|e
    .grind
    .exact J.ch.lt k e
    .exact J.dk.slt k e
   ok:=ho }
 grind
def Ar.czTo(h:Ar U w t c d M N a kb sb fb ub X S Y Z s D)(hc:Qq X S w w' c d N s' D')(J:LR N a' s' D')(E:a'.A=a.A)(hF:a'.F=a.F)(I:a'.K=a.K):G6 U w w' t c d M N a':=by obtain⟨O,L,f,q,r,B⟩:=hc;exact⟨_,h.czAt f q r B J E hF I⟩
def Ar.pmTo(h:Ar U w t c d M N a kb sb fb ub X S Y Z s D){B}(J:Pm w' M B (ext w w' Y))(r:AD Y w w')(a1:B.lo=a.A.lo)(hl:B.L.length=a.A.L.length):G6 U w w' t c d M N { a with A:=B }:=by
 have T:∀k,Y k->U k:=λ k f=>h.ux k (.inr (.inr (.inl f)));have I:=h.ul;have a2:=r.size;have W:∀k,X k->k<w.heap.size:=λ k f=>I k (h.ux k (.inl f));have O:∀k,S k->k<w.heap.size:=λ k f=>I k (h.ux k (.inr (.inl f)));have hZ:∀k,Z k->k<w.heap.size:=λ k f=>I k (h.ux k (.inr (.inr (.inr (.inl f)))));have a0:fb<w.heap.size:=h.fm.lt;have E:∀k,k<w.heap.size->¬Y k->¬ext w w' Y k:=λ k f hn e=>e.elim hn (λ e=>by omega);refine⟨λ k=>U k\/ext w w' Y k,⟨kb,sb,fb,ub,X,S,ext w w' Y,Z,s,D,?_⟩,r.mono (λ k _ e=>T k e),λ k f=>?_⟩
 .exact{
   box:=by rw[r.block t h.lt h.nt.2.2.1];exact h.box
   cz:=h.cz.tch r (λ k f e=>h.xy k f e) (λ k f e=>h.sy k f e)
   pm:=J
   kz:=h.kz.tch r (λ k f e=>h.yz k e f)
   fm:=h.fm.tch r h.nf.2.2.1
   xy:=λ k f=>E k (W k f) (h.xy k f)
   sy:=λ k f=>E k (O k f) (h.sy k f)
   xz:=h.xz
   sz:=h.sz
   yz:=λ k f K=>E k (hZ k K) (λ e=>h.yz k e K) f
   nt:=⟨h.nt.1,h.nt.2.1,E t h.lt h.nt.2.2.1,h.nt.2.2.2⟩
   nf:=⟨h.nf.1,h.nf.2.1,E fb a0 h.nf.2.2.1,h.nf.2.2.2⟩
   ux:=λ k f=>by
    rcases f with e|e|e|e;exact .inl (h.ux k (.inl e));exact .inl (h.ux k (.inr (.inl e)))
    .grind
    .exact .inl (h.ux k (.inr (.inr (.inr e))))
   ul:=λ k f=>f.elim (λ e=>Ao (I k e) a2) (λ e=>J.lt k e)
   ok:=⟨a1.trans h.ok.lo,by show 50+B.L.length=N;rw[hl];exact h.ok.hi,h.ok.fr,h.ok.v,h.ok.q,h.ok.co,h.ok.dc,h.ok.dv⟩ }
 grind
def Ar.fmTo(h:Ar U w t c d M N a kb sb fb ub X S Y Z s D){A}(B:Mp w' fb N (gF A))(f:AD (λ k=>k=fb) w w')(hF:∀x,A x=true->50<=x/\x<N):G6 U w w' t c d M N { a with F:=A }:=by
 have E:U fb:=h.ux fb (.inr (.inr (.inr (.inr (.inr rfl)))));refine⟨U,⟨kb,sb,fb,ub,X,S,Y,Z,s,D,?_⟩,f.mono (λ k _ e=>by grind),λ _ e=>.inl e⟩;exact{
  box:=by rw[f.block t h.lt h.ne];exact h.box
  cz:=h.cz.tch f (λ k r e=>h.nf.1 (by grind)) (λ k r e=>h.nf.2.1 (by grind))
  pm:=h.pm.tch f (λ k r e=>h.nf.2.2.1 (by grind))
  kz:=h.kz.tch f (λ k r e=>h.nf.2.2.2 (by grind))
  fm:=B
  xy:=h.xy
  sy:=h.sy
  xz:=h.xz
  sz:=h.sz
  yz:=h.yz
  nt:=h.nt
  nf:=h.nf
  ux:=h.ux
  ul:=λ k r=>Ao (h.ul k r) f.size
  ok:=⟨h.ok.lo,h.ok.hi,hF,h.ok.v,h.ok.q,h.ok.co,h.ok.dc,h.ok.dv⟩ }
def WB(s):(Ah.take s).2.2.lo=s.lo/\(Ah.take s).2.2.L.length=s.L.length:=by
 unfold Ah.take
 grind
def AG0(w)(H:Sz U w t c d M N a):
 Calls prog 99 #[mp M] w λ e w'=>e=.returned (.tuple #[.int .i64 (Ah.take a.A).1,.bool (Ah.take a.A).2.1])/\G6 U w w' t c d M N { a with A:=(Ah.take a.A).2.2 }:=by
 obtain⟨kb,sb,fb,ub,X,S,Y,Z,s,D,h⟩:=H;refine(AHS M a.A Y w h.pm).mono ?_;rintro e w' ⟨rfl,f,q⟩;exact⟨rfl,h.pmTo f q (WB _).1 (WB _).2⟩
def AGw(w)(H:Sz U w t c d M N a):
 Calls prog 10 #[mp M] w λ e w'=>e=.returned (.int .i64 (Ah.fre a.A))/\∃q,w'=w.drewN q:=by
 obtain⟨kb,sb,fb,ub,X,S,Y,Z,s,D,h⟩:=H;exact AAI M a.A Y w h.pm
def AGz(x k ys v w)(H:Sz U w t c d M N a)(E:50<=x/\x<(N:Int))(J:1<=k/\k<=4)(K:ys.length<=240)(I:By ys)(hr:Rd .u8 w v ys)(hv:∀j,v.ownBlock=some j->ys≠[]->¬U j):
 Calls prog 22 #[cp c,.int .i64 x,blk k v] w λ e w'=>e=.returned (.int .i64 0)/\G6 U w w' t c d M N { a with V:=Fa a.V x (0,k,ys) }:=by
 obtain⟨kb,sb,fb,ub,X,S,Y,Z,s,D,h⟩:=H;have A:=h.cz.len;have L:=h.cz.ch.n2;have f:s.putE N x k ys=0:=by
  unfold CS.putE;rw[if_pos (Ff.2 E),if_pos];unfold BI
  grind
 refine(AES x k v _ w h.cz.ch h.cz.dk h.cz.len hr I (λ j B r e=>hv j B r (h.ux j (.inl e)))).mono ?_;rintro e w' ⟨rfl,r⟩;rw[f];refine⟨rfl,h.czTo (h.cz.chTo r) ⟨h.ok.lo,h.ok.hi,h.ok.fr,?_,h.ok.q,h.ok.co.put _ _ _,h.ok.dc,h.ok.dv⟩ rfl rfl rfl⟩;rw[<-A]at f |-
 funext y;rw[AH7 h.ok.co _ _ _ f,AH4];show Fa a.V x (0,k,ys) y=_;rw[h.ok.v]
end
structure XC(U:Nat->Prop)(w:World)(t c d:Nat)(bx:Array Value)(N:Nat)(a:Ab)(X S:Nat->Prop)(s:CS)(D:DS):Prop where
 box:w.heap[t]?=some (.cells bx 90 (0,0))
 b0:bx[0]?=some (cp c)
 cz:Cz X S w c d N s D
 ux:∀k,X k\/S k->U k
 nt:¬U t
 ul:∀k,U k->k<w.heap.size
 ok:LR N a s D
def Cq(U:Nat->Prop)(w:World)(t c d:Nat)(bx:Array Value)(N:Nat)(a:Ab):Prop:=∃X S s D,XC U w t c d bx N a X S s D
section
variable {U X S Y Z:Nat->Prop} {w w':World} {t c d M N kb sb fb ub:Nat} {bx:Array Value} {a:Ab} {s:CS} {D:DS}
def Cq.tl(h:Cq U w t c d bx N a):t<w.heap.size:=by obtain⟨_,_,_,_,h⟩:=h;exact(za0.1 h.box).1
def Cq.ul(h:Cq U w t c d bx N a):∀k,U k->k<w.heap.size:=by obtain⟨_,_,_,_,h⟩:=h;exact h.ul
def Cq.tch(h:Cq U w t c d bx N a){R}(q:AD R w w')(r:∀k,U k->¬R k)(hr:¬R t):Cq U w' t c d bx N a:=by have A:=h.tl;obtain⟨X,S,s,D,h⟩:=h;exact⟨X,S,s,D,by rw[q.block t A hr];exact h.box,h.b0,h.cz.tch q (λ k f=>r k (h.ux k (.inl f))) (λ k f=>r k (h.ux k (.inr f))),h.ux,h.nt,λ k f=>Ao (h.ul k f) q.size,h.ok⟩
def Cq.below(h:Cq U w t c d bx N a)(f:Below w.heap.size w w'):Cq U w' t c d bx N a:=h.tch (R:=λ _=>False) (AD.of_below f) (λ _ _ e=>e) (λ e=>e)
def Cq.c0(h:Cq U w t c d bx N a):w.cell? ⟨t,0,none⟩=some (cp c):=by obtain⟨_,_,_,_,h⟩:=h;rw[cell_of_row w t 0 _ _ (0,0) h.box];exact h.b0
def Rx(x w)(H:Cq U w t c d bx N a):
 Calls prog 72 #[cp c,.int .i64 x] w λ e w'=>∃u,e=.returned (.tuple #[blk (a.V x).2.1 u,.int .i64 (a.V x).1])/\(By (a.V x).2.2/\(a.V x).2.2.length<=240)/\Nw w.heap.size w' u (a.V x).2.2/\∃E,Cq E w' t c d bx N a/\AD U w w'/\(∀k,E k->U k\/w.heap.size<=k)/\∀j,u.ownBlock=some j->¬E j:=by
 have a0:=H.tl;obtain⟨X,S,s,D,h⟩:=H;have hN:=h.cz.len;have Z:a.V x=(s.getE D x,s.getB D x)\/(s.getE D x≠0/\a.V x=(s.getE D x,0,[])):=by
  rw[h.ok.v];unfold FV Gv
  grind
 have a2:s.getE D x≠0->s.getB D x=(0,[]):=λ e=>by
  unfold CS.getE at e;unfold CS.getB;cases f:Bi D.L.length x with
  | false=>rfl
  | true=>
   rw[f,if_pos rfl]at e;rw[if_pos rfl];by_cases I:x.toNat∈s.d\/x.toNat∈s.c
   .grind
   .rw[if_neg I]at e |-
    exact if_neg e
 have O:a.V x=(s.getE D x,s.getB D x):=Z.elim id (λ e=>by grind);refine(AAT x w h.cz.ch h.cz.dk h.cz.len).mono ?_;rintro e w' ⟨u,rfl,hn,A,J,B,K,h4⟩;have r:=h.cz;have T:∀k,A k->U k\/w.heap.size<=k:=λ k f=>(K k f).imp (λ e=>h.ux k (.inl e)) id;have a1:∀k,(U k\/A k)->k<w'.heap.size:=λ k f=>f.elim (λ e=>Ao (h.ul k e) B.size) (λ e=>J.lt k e)
 refine⟨u,by rw[O],?_,by grind,λ k=>U k\/A k,⟨A,S,s.getS D x,D,by rw[B.block t a0 (λ e=>h.nt (h.ux t (.inl e)))];exact h.box,h.b0,⟨J,r.dk.tch B (λ k f e=>r.ap k e f),r.len,λ k f Y=>(K k f).elim (λ e=>r.ap k e Y) (λ e=>by have:=r.dk.slt k Y;omega)⟩,λ k f=>f.elim .inr (λ e=>.inl (h.ux k (.inr e))),λ e=>e.elim h.nt (λ e=>(T t e).elim h.nt (λ e=>by omega)),a1,⟨h.ok.lo,h.ok.hi,h.ok.fr,by funext y;rw[AH6 h.ok.co,h.ok.v],h.ok.q,h.ok.co.get x,h.ok.dc,h.ok.dv⟩⟩,B.mono (λ k _ e=>h.ux k (.inl e)),λ k f=>f.elim .inl (T k),λ j hj e=>?_⟩;rotate_left
 .have a3:=hn.new j hj;rcases e with e|e;have:=h.ul j e;omega
  grind
 rw[O];unfold CS.getB;cases f:Bi D.L.length x with
 | false=>exact⟨λ i=>by simp,by simp⟩
 | true=>have hx:=Ff.1 f;simp only[if_true];split;rename_i I;have W:=h.cz.ch.ok.may _ I;exact⟨W.2,UB W.1⟩;exact⟨AAP x (h.cz.dk.has_ok (by omega)).2,AAQ x _⟩
end
def ACJ{β:Type}(g:Nat->Option Value)(f:Nat->Value->β)(l:List Nat):(l.filterMap λ i=>(g i).map (f i)).length=(l.filter λ i=>(g i).isSome).length:=by
 induction l with
 | nil=>rfl
 | cons a r q=>
  cases h:g a with
  | none=>grind
  | some v=>grind
def SX{K f i}:(gS K f i).isSome=true↔∃e∈K,e.b=(i:Int):=by unfold gS;simp
def GY.size{Z w N kb sb ub K B D E f}(h:GY Z w N kb sb ub K B D f E):Maps.size (Dm N (gS K f))=K.length:=by
 unfold Dm;rw[size_eq];unfold IA;rw[ACJ];have T:((List.range N).filter λ i=>(gS K f i).isSome).Nodup:=List.nodup_range.filter _;have U:(K.map λ e=>e.b.toNat).Nodup:=by
  have A:=h.nd;rw[List.Nodup,List.pairwise_map]at A |-
  refine List.Pairwise.imp_of_mem (fun{x y} L O J e=>J ?_) A;have:=h.bd x L;have:=h.bd y O;omega
 have s1:∀i∈(List.range N).filter (λ i=>(gS K f i).isSome),i∈K.map λ e=>e.b.toNat:=λ i r=>by
  obtain⟨_,I⟩:=List.mem_filter.1 r;obtain⟨e,q,X⟩:=SX.1 I
  grind
 have W:∀i∈K.map (λ e=>e.b.toNat),i∈(List.range N).filter λ i=>(gS K f i).isSome:=λ i r=>by obtain⟨e,q,rfl⟩:=List.mem_map.1 r;have:=h.bd e q;exact List.mem_filter.2 ⟨by simp;omega,SX.2 ⟨e,q,by omega⟩⟩
 have Y:=T.length_le_of_subset s1;have l2:=U.length_le_of_subset W
 grind
def ABr{U t c d M N a}(w)(H:Sz U w t c d M N a):Calls prog 18 #[AW t] w λ e w'=>e=.returned (.int .i64 (a.K.length:Int))/\w'=w:=by
 obtain⟨kb,sb,fb,ub,X,S,Y,Z,s,A,h⟩:=H;obtain⟨B,D,r,E,z⟩:=h.kz;have c3:=h.c3;have f:=z6 z.sm;have q:=z6 z.size;clear h z
 go_enter func18,ntmps18
 go_wp2_with(at_len;refine wpList_len_own _ rfl (.tmp 6) 86 rfl 3 95 underlying86 Rv sb N (Dm N (gS a.K r)) rfl f.o ?_)
 rw[q.o];go_wp2_with fail;go_ret;exact⟨rfl,rfl⟩
