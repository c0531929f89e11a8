import Derived.Test.YtcmjlibndmneiaaGreatPDBs
import Derived.Laws.CopyOwn
set_option maxRecDepth 100000
set_option linter.all false
set_option maxHeartbeats 8000000
namespace Go.Proofs.YtcmjlibndmneiaaGreat
open Go.RowKit Pl
def blk(k:Int)(v:Value):Value:=.agg #[.int .i64 k,v]
def zju9(n k:Int)(a:Option Addr)(l cap:Nat)(w:World)(Y:l<=9223372036854775807):
 Calls Tryz.prog 89 #[.int .i64 n,blk k (.slice a l cap)] w λ e w'=>e=.returned (.bool (mayK n k l))/\Below w.heap.size w w':=by
 unfold blk;have u:Hid (∀o,Below w.heap.size w (w.alloc o)):=λ o=>(Below.refl _ _).alloc (zn6 _) _;have A:∀b:Bool,mayK n k l=b->mayK n k l=b:=λ _ e=>e;by_cases H:0<=n
 .by_cases I:n<=65535
  .by_cases K:1<=k
   .by_cases O:k<=4
    .by_cases Q:l<=240
     .have E:(l:Int)<=240:=by omega
      have e:mayK n k l=true:=zw9.2 ⟨H,I,K,O,Q⟩;rw[e];clear e A
      go_enter Tryz.func89,Tryz.ntmps89
      go_wp2_with fail;go_ret;exact⟨rfl,u.o _⟩
     .have E:decide ((l:Int)<=240)=false:=by rw[zn4];omega
      (have e:mayK n k l=false:=by rw[Bool.eq_false_iff,ne_eq,zw9];omega);rw[e];clear e A
      go_enter Tryz.func89,Tryz.ntmps89
      go_wp2_with fail;go_ret;exact⟨rfl,u.o _⟩
    .have E:decide (k<=4)=false:=by rw[zn4];omega
     (have e:mayK n k l=false:=by rw[Bool.eq_false_iff,ne_eq,zw9];omega);rw[e];clear e A
     go_enter Tryz.func89,Tryz.ntmps89
     go_wp2_with fail;go_ret;exact⟨rfl,u.o _⟩
   .have E:decide (1<=k)=false:=by rw[zn4];omega
    (have T:decide (k>=1)=false:=by rw[zn4];omega);(have e:mayK n k l=false:=by rw[Bool.eq_false_iff,ne_eq,zw9];omega);rw[e];clear e A
    go_enter Tryz.func89,Tryz.ntmps89
    go_wp2_with fail;go_ret;exact⟨rfl,u.o _⟩
  .have E:decide (n<=65535)=false:=by rw[zn4];omega
   (have e:mayK n k l=false:=by rw[Bool.eq_false_iff,ne_eq,zw9];omega);rw[e];clear e A
   go_enter Tryz.func89,Tryz.ntmps89
   go_wp2_with fail;go_ret;exact⟨rfl,u.o _⟩
 .have E:decide (0<=n)=false:=by rw[zn4];omega
  have T:decide (n>=0)=false:=by rw[zn4];omega
  have e:mayK n k l=false:=by rw[Bool.eq_false_iff,ne_eq,zw9];omega
  rw[e];clear e A
  go_enter Tryz.func89,Tryz.ntmps89
  go_wp2_with fail;go_ret;exact⟨rfl,u.o _⟩
def zmk9(L u:List Int)(A:Nat):splice (bcs L) A (bcs u)=bcs (splice L A u):=by unfold splice bcs;simp only[zi1,List.map_take,List.map_drop,zb1]
theorem inf_u8:(Tryz.prog.info? 5).map (·.size)=some 1:=by kernel_rfl
def zca9(w:World){I:Array Oper}{K:List Oper}{o:Oper}{a:Act}{Q:Exit->Act->World->Prop}(a0:o.guard=none)(d s:Operand)
 (ho:o.op=.call { callee:=.builtin .copy,args:=#[d,s],argTypes:=#[61,61] }) (g off dLen dCap:Nat) (hd:a.eval d=.slice (some ⟨g,off,none⟩) dLen dCap)
 (cur:List Int) (t:TypeId) (hg:w.heap[g]?=some (.cells (bcs cur).toArray t (0,0))) (v:Value) (xs:List Int) (hs:a.eval s=v) (hr:Rd .u8 w v xs) (hfit:off+min xs.length dLen<=cur.length)
 (B:Nat) (w0:World) (hB:Below B w0 w) (hBg:B<=g)
 (h:∀w',Hid (w'.heap[g]?=some (.cells (bcs (splice cur off (xs.take dLen))).toArray t (0,0)))->Hid (Below B w0 w')->wpList Tryz.prog I Q K (a.put o.dst (goInt (xs.take dLen).length)) w'):wpList Tryz.prog I Q (o::K) a w:=by
 obtain⟨sp,cap,rfl,h1,h2,h3,O⟩:=hr;refine wpList_copy_splice a0 d s 61 61 ho 5 Tryz.underlying61 inf_u8 (some ⟨g,off,none⟩) sp dLen dCap xs.length cap hd hs g off (bcs cur) t hg (bcs (xs.take dLen)) ?_ ?_ ?_ (zdi9 _) B w0 hB hBg ?_
 .rw[zc9,zg0];exact Nat.min_comm _ _
 .intro H;refine⟨rfl,?_⟩;rw[zc9,zg0]at H;rcases O with rfl|⟨b,o,rfl,Y⟩
  .simp at H
  .refine⟨_,rfl,λ j u A=>?_⟩;have a1:j<(bcs (xs.take dLen)).length:=(List.getElem?_eq_some_iff.1 A).1;rw[zc9,zg0]at a1;rw[Addr.add_lit,Y j (by omega)];rw[bcs,zd1,zv0,if_pos (by omega),zc0 (by omega)]at A;simp only[Option.map_some,Option.some.injEq]at A;rw[<-A,zn3,zc0 (by omega)];rfl
 .rw[zc9,zc9,zg0];omega
 .intro w' hh T;have E:=hh.o;rw[zmk9]at E;rw[zc9];exact h w' E T
def zr(n:Nat):List Int:=List.replicate n 0
def zr_len(n:Nat):(zr n).length=n:=by unfold zr;exact zr0
def zoe9{w:World}{e:TypeId}{g n:Nat}(h:w.ownsRow 0 e 1 (.slice (some ⟨g,0,none⟩) n n) n (List.replicate n (.int .u8 0))):w.heap[g]?=some (.cells (bcs (zr n)).toArray e (0,0)):=by
 rcases h.2 with⟨E,_⟩|⟨O,cap,u,hv,_,I,T,Q,H,K⟩
 .cases E
 .cases hv;rw[I];have A:u.toList=bcs (zr n):=by have:u.toList.take (n*1)=u.toList:=zn5 (by rw[Array.length_toList,H];omega);rw[<-this,K,bcs,zr,List.map_replicate]
  rw[<-A]
def zeb9(g:Nat)(w:World):(Instr.sliceAt 156 (.pointer (some ⟨g,0,none⟩)) (some (.int .i64 8)) (some (.int .i64 252)) none).run Tryz.prog w=.ok (.slice (some ⟨g,8,none⟩) 244 248) w:=by have:=run_sliceAt_array_lh w 156 ⟨g,0,none⟩ zsi9 .i64 .i64 8 252 (by omega) (by omega) (by rw[zjd9];omega);rw[zjd9,arr_el]at this;rw[this];simp[slicedAt,go_sem]
def Fv.rdMid{w:World}{g:Nat}{xs:List Int}(h:Fv w g xs):Rd .u8 w (.slice (some ⟨g,8,none⟩) 244 248) ((xs.drop 8).take 244):=by
 have A:=h.2.1;have e:((xs.drop 8).take 244).length=244:=by rw[zg0,zj0];omega
 refine⟨_,248,by rw[e],by omega,by unfold maxLen;omega,(λ e=>by cases e),.inr ⟨g,8,rfl,λ i u=>?_⟩⟩;rw[e]at u;rw[h.cell (by omega),zn3,zn3,zv0,if_pos u,zu0]
theorem zuu9:(Tryz.prog.info? 5).map (λ i=>(i.zero,i.size,i.bytes))=some (some (.int .u8 0),1,1):=by kernel_rfl
theorem zxl9:(Tryz.prog.info? 63).map (·.size)=some 2:=by kernel_rfl
def Bkv(w:World)(b:Nat)(K:Int)(v:Value):Prop:=w.heap[b]?=some (.cells #[.int .i64 K,v] 63 (0,0))
section
variable {w w':World} {b:Nat} {K:Int} {v:Value}
def Bkv.range(h:Bkv w b K v):w.rangeAt b 0 [.int .i64 K,v]:=λ j u A=>by rw[Nat.zero_add,cell_of_row w b j _ _ (0,0) h,List.getElem?_toArray];exact A
def Bkv.load(h:Bkv w b K v):(loadVar 63 ⟨b,0,none⟩).run Tryz.prog w=.ok (blk K v) w:=
 run_loadVar_mid (P:=Tryz.prog) w b 0 63 [.int .i64 K,v] _ h.range Tryz.underlying63 rfl zxl9
def Bkv.c0(h:Bkv w b K v):w.cell? ⟨b,0,none⟩=some (.int .i64 K):=by rw[cell_of_row w b 0 _ _ (0,0) h];rfl
def Bkv.c1(h:Bkv w b K v):w.cell? ⟨b,1,none⟩=some v:=by rw[cell_of_row w b 1 _ _ (0,0) h];rfl
def Bkv.fz(h:Bkv w b K v)(i:Nat):w.frozen? ⟨b,i,none⟩=false:=frozen_of_row w b i _ _ h
def Bkv.lt(h:Bkv w b K v):b<w.heap.size:=(zd0.1 h).1
def Bkv.tch{S:Nat->Prop}(h:Bkv w b K v)(A:Tch S w w')(u:¬S b):Bkv w' b K v:=by unfold Bkv;rw[A.block b h.lt u];exact h
def Bkv.below(h:Bkv w b K v)(u:Below w.heap.size w w'):Bkv w' b K v:=h.tch (S:=λ _=>False) (Tch.of_below u) (λ e=>e)
def Bkv.put(h:Bkv w b K v)(J:Int)(u:Value):Bkv ((w.setCell ⟨b,0,none⟩ (.int .i64 J)).setCell ⟨b,1,none⟩ u) b J u:=by have A:=heap_setCell_same w b 0 _ _ (.int .i64 J) h;have E:=heap_setCell_same _ b 1 _ _ u A;exact E
def zz9(w:World)(K:Int)(v:Value):Bkv (w.alloc (.cells #[.int .i64 K,v] 63)) w.heap.size K v:=heap_alloc_new w _
end
