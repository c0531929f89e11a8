import Derived.Test.YtcmjlibndmneiaaGreatPUSet
import Derived.Deep.RegionHeld3
set_option maxRecDepth 100000
set_option linter.all false
set_option maxHeartbeats 8000000
namespace Go.Proofs.YtcmjlibndmneiaaGreat
open Go.RowKit Pl
theorem zwo9:Tryz.prog.cellsOf 5=1:=by kernel_rfl
def zes9(w:World)(d:Nat)(xs ys:List Int)(H:xs.length=256)(I:ys.length=256):∀u:List Nat,(∀i∈u,i<256)->
 (Op.eqItems (d+1) 5 1 (bcs xs).toArray (bcs ys).toArray u).run Tryz.prog w=.ok (u.all λ i=>decide (xs.getD i 0=ys.getD i 0)) w
 | [],_=>by simp[Op.eqItems]
 | i::u,h=>by
  have hi:=h i (by simp);have E:∀A:List Int,A.length=256->(part 5 (bcs A).toArray (i*1)).run Tryz.prog w=.ok (.int .u8 (A.getD i 0)) w:=λ A T=>run_part_plain w (by kernel_rfl) (by
   rw[Nat.mul_one,List.getElem?_toArray,bcs,zd1,zc0 (by omega),zn3,zc0 (by omega)];rfl)
  have K:(Op.equalIn (d+1) 5 (.int .u8 (xs.getD i 0)) (.int .u8 (ys.getD i 0))).run Tryz.prog w=.ok (decide (xs.getD i 0=ys.getD i 0)) w:=by have:=run_equalIn_int (P:=Tryz.prog) w d 5 .u8 .u8 (xs.getD i 0) (ys.getD i 0) Tryz.underlying5;rw[this];congr 1
  simp only[Op.eqItems,Sem.run_bind,E xs H,E ys I,K,Result.andThen_ok];have Q:=zes9 w d xs ys H I u (λ j O=>h j (by simp[O]));by_cases c:xs.getD i 0=ys.getD i 0
  .simp only[c,decide_true,if_true,List.all_cons,Bool.true_and];simpa using Q
  .rw[zn3,zn3]at c;simp[c]
def eq_frm(w:World)(xs ys:List Int)(K:xs.length=256)(O:ys.length=256):(Op.equalIn 10000 156 (.agg (bcs xs).toArray) (.agg (bcs ys).toArray)).run Tryz.prog w=.ok (decide (xs=ys)) w:=by
 obtain⟨i,u,_⟩:=elem8.info;rw[run_equalIn_array w 9999 _ _ Tryz.underlying156 u,zwo9];have:=zes9 w 9998 xs ys K O (List.range 256) (λ i u=>by simpa using u);rw[this];congr 1;by_cases c:xs=ys
 .subst c;simp
 .rw[zl1 c,List.all_eq_false];apply Classical.byContradiction;intro I;apply c;apply List.ext_getElem (by omega);intro j A E;apply Classical.byContradiction;intro H;refine I ⟨j,by simp;omega,?_⟩;simp only[zn3,zc0 A,zc0 E,Option.getD_some];simpa using H
def GetR(n:Int)(xs:List Int)(w:World)(e:Ending)(w':World):Prop:=
 ∃v,e=.returned (.tuple #[blk (getB n xs).1 v,.int .i64 (getE n xs)])/\Rd .u8 w' v (getB n xs).2/\Below w.heap.size w w'/\∀j,v.ownBlock=some j->w.heap.size<=j
def zfr9{n:Int}{xs:List Int}{w w':World}{c:Int}(u:getE n xs=c)(A:c≠0)(E:Below w.heap.size w w'):GetR n xs w (.returned (.tuple #[blk 0 (.slice none 0 0),.int .i64 c])) w':=by
 have e:getB n xs=(0,[]):=by unfold getB;rw[if_neg (by rw[u];exact A)]
 refine⟨.slice none 0 0,by rw[e,u],?_,E,λ j e=>by cases e⟩;rw[e];exact⟨none,0,rfl,zn6 _,by unfold maxLen;omega,λ _=>rfl,.inl rfl⟩
def zk9{E:Func}{p u:Tmp}{ty:TypeId}(h:E.results=#[.cell p ty,.tmp u])(A:Array Value)(P:Program)(w:World)(b:Nat)(v x:Value)(ha:A.getD p undef=.pointer (some ⟨b,0,none⟩))
 (H:(loadVar ty ⟨b,0,none⟩).run P w=.ok v w) (I:A.getD u undef=x):(results E A).run P w=.ok (.tuple #[v,x]) w:=by
 rw[results_cell_tmp h,ha];simp[asAddr,Result.andThen,H,I]
def zxh9(n:Int)(v:Value)(xs:List Int)(w:World)(hr:Rd .u8 w v xs)(E:xs.length≠256):
 Calls Tryz.prog 110 #[.int .i64 n,v] w λ e w'=>GetR n xs w e w':=by
 obtain⟨a,cap,rfl,h1,H,_⟩:=id hr;have O:Hid (getE n xs=1):=by show _=_;unfold getE;rw[if_pos E]
 have a0:xs.length<=9223372036854775807:=by unfold maxLen at H;omega
 obtain⟨A,I⟩:=exN (w.alloc (.cells #[.int .i64 0,.slice none 0 0] 63));have T:Hid (Below w.heap.size w A):=by rw[<-I];exact(Below.refl _ _).alloc (zn6 _) _
 have u:Hid (Bkv A w.heap.size 0 (.slice none 0 0)):=by rw[<-I];exact zz9 w _ _
 have q0:=u.o.c0;have q1:=u.o.c1;have f0:=u.o.fz 0;have f1:=u.o.fz 1;have Q:=zb0 (u.o.put 0 (.slice none 0 0)).load;have K:Hid (Below w.heap.size w ((A.setCell ⟨w.heap.size,0,none⟩ (.int .i64 0)).setCell ⟨w.heap.size,1,none⟩ (.slice none 0 0))):=(T.o.setCell (zn6 _) _).setCell (zn6 _) _;have Y:=za0 E;have a1:((xs.length:Int)==256)=false:=by rw[zl0];omega
 generalize xs.length=l at *
 clear E hr H
 go_enter Tryz.func110,Tryz.ntmps110
 go_wp2_with fail;refine bodyPost_ret (v:=.tuple #[blk 0 (.slice none 0 0),.int .i64 1]) (zk9 (p:=4) (ty:=63) rfl _ _ _ w.heap.size _ _ rfl Q.o rfl) rfl ?_;exact zfr9 O.o (by decide) K.o
