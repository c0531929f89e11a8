import Derived.Test.YtihofcopapmjlaaGreatPSLst
import Derived.Deep.RegionHeld3
set_option maxRecDepth 100000
set_option linter.all false
set_option maxHeartbeats 8000000
namespace Go.Proofs.YtihofcopapmjlaaGreat
open Go.Proofs.Tryz
open Go.RowKit Pl
theorem Yh:prog.cellsOf 5=1:=by kernel_rfl
def SN(w:World)(d:Nat)(xs ys:List Int)(A:xs.length=256)(B:ys.length=256):∀f:List Nat,(∀i∈f,i<256)->
 (Op.eqItems (d+1) 5 1 (AG xs).toArray (AG ys).toArray f).run prog w=.ok (f.all λ i=>decide (xs.getD i 0=ys.getD i 0)) w
 | [],_=>by simp[Op.eqItems]
 | i::f,h=>by
  have J:=h i (by simp);have r:∀q:List Int,q.length=256->(part 5 (AG q).toArray (i*1)).run prog w=.ok (.int .u8 (q.getD i 0)) w:=λ q K=>run_part_plain w (by kernel_rfl) (by
   rw[Nat.mul_one,List.getElem?_toArray,AG,zw0,z9 (by omega),AP,z9 (by omega)];rfl)
  have E:(Op.equalIn (d+1) 5 (.int .u8 (xs.getD i 0)) (.int .u8 (ys.getD i 0))).run prog w=.ok (decide (xs.getD i 0=ys.getD i 0)) w:=by have:=run_equalIn_int (P:=prog) w d 5 .u8 .u8 (xs.getD i 0) (ys.getD i 0) underlying5;omega
  simp only[Op.eqItems,Sem.run_bind,r xs A,r ys B,E,Result.andThen_ok];have L:=SN w d xs ys A B f (λ j I=>h j (by simp[I]));by_cases c:xs.getD i 0=ys.getD i 0
  .grind
  simp_all
def SO(w xs ys)(q:xs.length=256)(r:ys.length=256):(Op.equalIn 10000 165 (.agg (AG xs).toArray) (.agg (AG ys).toArray)).run prog w=.ok (decide (xs=ys)) w:=by
 obtain⟨i,f,_⟩:=Dd.info;rw[run_equalIn_array w 9999 _ _ underlying165 f,Yh];have:=SN w 9998 xs ys q r (List.range 256) (λ i f=>by grind);rw[this];congr 1;by_cases c:xs=ys
 .grind
 .rw[ze1 c,List.all_eq_false];apply Classical.byContradiction;intro A;apply c;apply List.ext_getElem (by omega);simp_all
def Jy(n:Int)(xs:List Int)(w:World)(e:Ending)(w':World):Prop:=
 ∃v,e=.returned (.tuple #[blk (getB n xs).1 v,.int .i64 (getE n xs)])/\Rd .u8 w' v (getB n xs).2/\Below w.heap.size w w'/\∀j,v.ownBlock=some j->w.heap.size<=j
def MF{n xs w w' c}(hc:getE n xs=c)(q:c≠0)(f:Below w.heap.size w w'):Jy n xs w (.returned (.tuple #[blk 0 (.slice none 0 0),.int .i64 c])) w':=by
 have e:getB n xs=(0,[]):=by unfold getB;grind
 refine⟨.slice none 0 0,by rw[e,hc],?_,f,λ j e=>by cases e⟩;rw[e];exact⟨none,0,rfl,AE _,by omega,λ _=>rfl,.inl rfl⟩
def GJ{q}{p u:Tmp}{ty}(h:q.results=#[.cell p ty,.tmp u])(f P w b v x)(ha:f.getD p undef=.pointer (some ⟨b,0,none⟩))(r:(loadVar ty ⟨b,0,none⟩).run P w=.ok v w)(A:f.getD u undef=x):(results q f).run P w=.ok (.tuple #[v,x]) w:=by
 rw[results_cell_tmp h,ha];simp[asAddr,Result.andThen,r,A]
def AAg(n v xs w)(hr:Rd .u8 w v xs)(r:xs.length≠256):
 Calls prog 140 #[.int .i64 n,v] w λ e w'=>Jy n xs w e w':=by
 obtain⟨a,cap,rfl,T,A,_⟩:=id hr;have I:Hid (getE n xs=1):=by show _=_;unfold getE;rw[if_pos r]
 have U:xs.length<=9223372036854775807:=by unfold maxLen at A;omega
 obtain⟨q,B⟩:=exN (w.alloc (.cells #[.int .i64 0,.slice none 0 0] 59));have b1:Hid (Below w.heap.size w q):=by rw[<-B];exact(Below.refl _ _).alloc (AE _) _
 have f:Hid (Af q w.heap.size 0 (.slice none 0 0)):=by rw[<-B];exact D1 w _ _
 have X:=f.o.c0;have Y:=f.o.c1;have L:=f.o.fz 0;have O:=f.o.fz 1;have J:=AU (f.o.put 0 (.slice none 0 0)).load;have E:Hid (Below w.heap.size w ((q.setCell ⟨w.heap.size,0,none⟩ (.int .i64 0)).setCell ⟨w.heap.size,1,none⟩ (.slice none 0 0))):=(b1.o.setCell (AE _) _).setCell (AE _) _;have K:=z6 r;have W:((xs.length:Int)==256)=false:=by rw[zi0];omega
 generalize xs.length=l at *
 clear r hr A
 go_enter func140,ntmps140
 go_wp2_with fail;refine bodyPost_ret (v:=.tuple #[blk 0 (.slice none 0 0),.int .i64 1]) (GJ (p:=4) (ty:=59) rfl _ _ _ w.heap.size _ _ rfl J.o rfl) rfl ?_;exact MF I.o (by decide) E.o
