import Derived.Test.YtihofcopapmjlaaGreatPBSum
import Derived.Laws.CopyOwn
set_option maxRecDepth 100000
set_option linter.all false
set_option maxHeartbeats 8000000
namespace Go.Proofs.YtihofcopapmjlaaGreat
open Go.Proofs.Tryz
open Go.RowKit Pl
def blk(k:Int)(v:Value):Value:=.agg #[.int .i64 k,v]
def UA(n k a l cap w)(L:l<=9223372036854775807):
 Calls prog 83 #[.int .i64 n,blk k (.slice a l cap)] w λ e w'=>e=.returned (.bool (BI n k l))/\Below w.heap.size w w':=by
 unfold blk;have f:Hid (∀o,Below w.heap.size w (w.alloc o)):=λ o=>(Below.refl _ _).alloc (AE _) _;have q:∀b:Bool,BI n k l=b->BI n k l=b:=λ _ e=>e;by_cases A:0<=n
 .by_cases B:n<=65535
  .by_cases E:1<=k
   .by_cases I:k<=4
    .by_cases J:l<=240
     .have r:(l:Int)<=240:=by omega
      have e:BI n k l=true:=FO.2 ⟨A,B,E,I,J⟩;rw[e];clear e q
      go_enter func83,ntmps83
      go_wp2_with fail;go_ret;exact⟨rfl,f.o _⟩
     .have r:decide ((l:Int)<=240)=false:=by rw[AT];omega
      (have e:BI n k l=false:=by rw[Bool.eq_false_iff,ne_eq,FO];omega);rw[e];clear e q
      go_enter func83,ntmps83
      go_wp2_with fail;go_ret;exact⟨rfl,f.o _⟩
    .have r:decide (k<=4)=false:=by rw[AT];omega
     (have e:BI n k l=false:=by rw[Bool.eq_false_iff,ne_eq,FO];omega);rw[e];clear e q
     go_enter func83,ntmps83
     go_wp2_with fail;go_ret;exact⟨rfl,f.o _⟩
   .have r:decide (1<=k)=false:=by rw[AT];omega
    (have K:decide (k>=1)=false:=by rw[AT];omega);(have e:BI n k l=false:=by rw[Bool.eq_false_iff,ne_eq,FO];omega);rw[e];clear e q
    go_enter func83,ntmps83
    go_wp2_with fail;go_ret;exact⟨rfl,f.o _⟩
  .have r:decide (n<=65535)=false:=by rw[AT];omega
   (have e:BI n k l=false:=by rw[Bool.eq_false_iff,ne_eq,FO];omega);rw[e];clear e q
   go_enter func83,ntmps83
   go_wp2_with fail;go_ret;exact⟨rfl,f.o _⟩
 .have r:decide (0<=n)=false:=by rw[AT];omega
  have K:decide (n>=0)=false:=by rw[AT];omega
  have e:BI n k l=false:=by rw[Bool.eq_false_iff,ne_eq,FO];omega
  rw[e];clear e q
  go_enter func83,ntmps83
  go_wp2_with fail;go_ret;exact⟨rfl,f.o _⟩
def Xl(L cs f):splice (AG L) f (AG cs)=AG (splice L f cs):=by unfold splice AG;simp
theorem ABH:(prog.info? 5).map (·.size)=some 1:=by kernel_rfl
def Qh(w){A E o a Q}(K:o.guard=none)(d s)(T:o.op=.call { callee:=.builtin .copy,args:=#[d,s],argTypes:=#[40,40] })(g off dLen dCap)(hd:a.eval d=.slice (some ⟨g,off,none⟩) dLen dCap)(cur t)(hg:w.heap[g]?=some (.cells (AG cur).toArray t (0,0)))(v xs)(hs:a.eval s=v)(hr:Rd .u8 w v xs)(hfit:off+min xs.length dLen<=cur.length)(B w0)(hB:Below B w0 w)(hBg:B<=g)(h:∀w',Hid (w'.heap[g]?=some (.cells (AG (splice cur off (xs.take dLen))).toArray t (0,0)))->Hid (Below B w0 w')->wpList prog A Q E (a.put o.dst (goInt (xs.take dLen).length)) w'):wpList prog A Q (o::E) a w:=by
 obtain⟨sp,cap,rfl,U,W,X,I⟩:=hr;refine wpList_copy_splice K d s 40 40 T 5 underlying40 ABH (some ⟨g,off,none⟩) sp dLen dCap xs.length cap hd hs g off (AG cur) t hg (AG (xs.take dLen)) ?_ ?_ ?_ (Nf _) B w0 hB hBg ?_;rw[At,zd0];grind
 .intro q;refine⟨rfl,?_⟩;rw[At,zd0]at q;rcases I with rfl|⟨b,o,rfl,hc⟩
  .simp at q
  .refine⟨_,rfl,λ j u r=>?_⟩;have O:j<(AG (xs.take dLen)).length:=(List.getElem?_eq_some_iff.1 r).1;rw[At,zd0]at O;rw[Addr.add_lit,hc j (by omega)];rw[AG,zw0,zq0,if_pos (by omega),z9 (by omega)]at r
   grind
 .rw[At,At,zd0];omega
 .intro w' L J;have f:=L.o;rw[Xl]at f;rw[At];exact h w' f J
def zr(n:Nat):List Int:=List.replicate n 0
def Qp(n):(zr n).length=n:=by unfold zr;simp
def Tv{w:World}{e g n}(h:w.ownsRow 0 e 1 (.slice (some ⟨g,0,none⟩) n n) n (List.replicate n (.int .u8 0))):w.heap[g]?=some (.cells (AG (zr n)).toArray e (0,0)):=by
 rcases h.2 with⟨r,_⟩|⟨E,cap,f,hv,_,A,K,I,J,B⟩
 .cases r
 .cases hv;rw[A];have q:f.toList=AG (zr n):=by have:f.toList.take (n*1)=f.toList:=Cj (by grind);rw[<-this,B,AG,zr,List.map_replicate]
  rw[<-q]
def VR(g w):(Instr.sliceAt 165 (.pointer (some ⟨g,0,none⟩)) (some (.int .i64 8)) (some (.int .i64 252)) none).run prog w=.ok (.slice (some ⟨g,8,none⟩) 244 248) w:=by have:=run_sliceAt_array_lh w 165 ⟨g,0,none⟩ RA .i64 .i64 8 252 (by omega) (by omega) (by rw[LS];omega);rw[LS,Na]at this;rw[this];simp[slicedAt,go_sem]
def Fv.rdMid{w g xs}(h:Fv w g xs):Rd .u8 w (.slice (some ⟨g,8,none⟩) 244 248) ((xs.drop 8).take 244):=by
 have q:=h.2.1;have e:((xs.drop 8).take 244).length=244:=by grind
 refine⟨_,248,by rw[e],by omega,by unfold maxLen;omega,(λ e=>by cases e),.inr ⟨g,8,rfl,λ i f=>?_⟩⟩;rw[e]at f;rw[h.cell (by omega),AP,AP,zq0,if_pos f,zp0]
theorem ABS:(prog.info? 5).map (λ i=>(i.zero,i.size,i.bytes))=some (some (.int .u8 0),1,1):=by kernel_rfl
theorem ABE:(prog.info? 59).map (·.size)=some 2:=by kernel_rfl
def Af(w:World)(b:Nat)(K:Int)(v:Value):Prop:=w.heap[b]?=some (.cells #[.int .i64 K,v] 59 (0,0))
section
variable {w w':World} {b:Nat} {K:Int} {v:Value}
def Af.range(h:Af w b K v):w.rangeAt b 0 [.int .i64 K,v]:=λ j u f=>by rw[Nat.zero_add,cell_of_row w b j _ _ (0,0) h,List.getElem?_toArray];exact f
def Af.load(h:Af w b K v):(loadVar 59 ⟨b,0,none⟩).run prog w=.ok (blk K v) w:=
 run_loadVar_mid (P:=prog) w b 0 59 [.int .i64 K,v] _ h.range underlying59 rfl ABE
def Af.c0(h:Af w b K v):w.cell? ⟨b,0,none⟩=some (.int .i64 K):=by rw[cell_of_row w b 0 _ _ (0,0) h];rfl
def Af.c1(h:Af w b K v):w.cell? ⟨b,1,none⟩=some v:=by rw[cell_of_row w b 1 _ _ (0,0) h];rfl
def Af.fz(h:Af w b K v)(i):w.frozen? ⟨b,i,none⟩=false:=frozen_of_row w b i _ _ h
def Af.lt(h:Af w b K v):b<w.heap.size:=(za0.1 h).1
def Af.tch{S}(h:Af w b K v)(q:AD S w w')(f:¬S b):Af w' b K v:=by unfold Af;rw[q.block b h.lt f];exact h
def Af.below(h:Af w b K v)(f:Below w.heap.size w w'):Af w' b K v:=h.tch (S:=λ _=>False) (AD.of_below f) (λ e=>e)
def Af.put(h:Af w b K v)(J u):Af ((w.setCell ⟨b,0,none⟩ (.int .i64 J)).setCell ⟨b,1,none⟩ u) b J u:=by have f:=heap_setCell_same w b 0 _ _ (.int .i64 J) h;have q:=heap_setCell_same _ b 1 _ _ u f;exact q
def D1(w:World)(K v):Af (w.alloc (.cells #[.int .i64 K,v] 59)) w.heap.size K v:=heap_alloc_new w _
end
