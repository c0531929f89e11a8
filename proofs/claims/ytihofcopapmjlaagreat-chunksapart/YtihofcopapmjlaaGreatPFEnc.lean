import Derived.Test.YtihofcopapmjlaaGreatPFSmall
import Derived.Test.YtihofcopapmjlaaGreatPANew
import Derived.Test.YtihofcopapmjlaaGreatPFBkw
import Derived.Test.YtihofcopapmjlaaGreatPFCat
set_option maxRecDepth 100000
set_option linter.all false
set_option maxHeartbeats 8000000
namespace Go.Proofs.YtihofcopapmjlaaGreat
open Go.Proofs.Tryz
section
open Go.RowKit Pl Go.Shelf
attribute [local go_sem] Oper.semAt_some
def DB(s:List Int)(log:Int)(ds:List Int):Int×List Int:=
 if A0 s log=false then(4,[])else if 65536<ds.length\/C9 s ds=false then(1,[])else(0,AJ (Cl (nn s) s.length (2 ^ log.toNat) log.toNat ds++[1]))
def GW(r:Int×List Int)(w:World)(e:Ending)(w':World):Prop:=
 ∃d,e=.returned (.tuple #[d,.int .i64 r.1])/\Below w.heap.size w w'/\(∀k,d.ownBlock=some k->w.heap.size<=k)/\AF .u8 5 w' d r.2
def GW.bad{E w w'}(f:Below w.heap.size w w'):GW (E,[]) w (.returned (.tuple #[.slice none 0 0,.int .i64 E])) w':=
 ⟨_,rfl,f,(λ k e=>by cases e),CB _ _ _⟩
def Q0(v u s f w)(B:1<=s.length)(J:s.length<=64)(K:f.length<=65536)(hr:Rd .i64 w v s)(q:Rd .i64 w u f):
 Calls prog 228 #[v,u] w λ e w'=>e=.returned (.bool (C9 s f))/\w'=w:=by
 obtain⟨a,cap,rfl,_,_,_,h⟩:=hr;obtain⟨E,r,rfl,_,_,_,k⟩:=q;by_cases A:f.length=0
 .obtain rfl:f=[]:=ze0 A;have e:C9 s []=true:=by unfold C9;simp
  rw[e];exact XU _ E r w
 .rcases h with rfl|⟨b,o,rfl,hc⟩
  .simp at B
  .rcases k with rfl|⟨I,L,rfl,q⟩
   .simp at A
   .exact XT b o cap I L r s f w B J K hc q
def Zv(sv dv s f r w)(hr:Rd .i64 w sv s)(L:Rd .i64 w dv f)(K:A0 s r=false\/65536<f.length\/C9 s f=false):
 Calls prog 200 #[sv,.int .i64 r,dv] w λ e w'=>GW (DB s r f) w e w':=by
 have E:=z6 hr;have Z:=z6 L;obtain⟨sa,sc,a1⟩:∃a c,sv=.slice a s.length c:=by obtain⟨a,c,e,_⟩:=hr;exact⟨a,c,e⟩
 obtain⟨da,dc,DV⟩:∃a c,dv=.slice a f.length c:=by obtain⟨a,c,e,_⟩:=L;exact⟨a,c,e⟩
 subst a1 DV;clear hr L;have q:Hid (Below w.heap.size w (w.alloc (.cells #[.slice sa s.length sc] 23))):=(Below.refl _ _).alloc (AE _) _;obtain⟨R,J⟩:=exH (DB s r f);rw[J.o];cases hm:A0 s r with
 | false=>
  have B:=z6 hm;have A:Hid (R=(4,[])):=by show R=_;rw[<-J.o];unfold DB;rw[if_pos hm]
  clear hm K
  go_enter func200,ntmps200
  go_wp2_with fail;refine(He _ s r _ (E.o.below q.o)).mono ?_;rintro e T ⟨rfl,rfl⟩;rw[B.o];go_wp2_with fail;go_ret2;rw[A.o];exact GW.bad q.o
 | true=>
  have B:=z6 hm;obtain⟨O,rfl,W⟩:=Ca.of hm;have U:=z6 W;have X:¬A0 s O=false:=by rw[hm];simp
  have I:65536<f.length\/C9 s f=false:=by rcases K with h|h;(· rw[hm]at h;cases h);(· exact h)
  have A:Hid (R=(1,[])):=by show R=_;rw[<-J.o];unfold DB;rw[if_neg X,if_pos I]
  clear hm W X K;by_cases hn:65536<f.length
  .have a0:(65536:Int)<(f.length:Int):=by omega
   clear I
   go_enter func200,ntmps200
   go_wp2_with fail;refine(He _ s O _ (E.o.below q.o)).mono ?_;rintro e T ⟨rfl,rfl⟩;rw[B.o];go_wp2_with fail;go_ret2;rw[A.o];exact GW.bad q.o
  .have Y:Hid (C9 s f=false):=by rcases I with h|h;(· omega);(· exact h)
   (have a0:decide ((65536:Int)<(f.length:Int))=false:=by rw[AT];omega);clear I
   go_enter func200,ntmps200
   go_wp2_with fail;refine(He _ s O _ (E.o.below q.o)).mono ?_;rintro e T ⟨rfl,rfl⟩;rw[B.o];go_wp2_with fail;refine(Q0 _ _ s f _ U.o.pos U.o.len (by omega) (E.o.below q.o) (Z.o.below q.o)).mono ?_;rintro e T ⟨rfl,rfl⟩;rw[Y.o];go_wp2_with fail;go_ret2;rw[A.o];exact GW.bad q.o
section
variable {P:Program} {ops:Array Oper} {Q:Exit->Act->World->Prop} {md:Region.Mode} {S:World->Prop} {l n:Nat}
def AFO{q f w R}(h:Rows P q f w R):RowsIn (Fence.wide.inRound l) n P q f w R:=
 λ c A _=>let ⟨v,B,r,s⟩:=h c A;⟨v,B,r,stepsIn_wide.2 s⟩
def ADj{o:Oper}{a w K B}(J:∀c,o.op≠.defer c)(T:¬LetsOut Q)(q:∀a w,K a w->B a w)(h:o.wp P a w K Q):o.wpIn (Fence.wide.inRound l) n P a w B Q:=by
 unfold Oper.wpIn;refine⟨λ f _=>trivial,?_⟩;have e:o.semAt (Fence.wide.inRound l).round a.eval=execOp a.eval o:=Oper.semAt_some l _ _ J;rw[e];unfold Oper.wp at h;generalize (execOp a.eval o).run P w=r at *
 cases r with
 | ok x O=>
  cases x with
  | value v=>exact q _ _ h
  | skip=>exact q _ _ h
  | defer d=>exact q _ _ h
  | enter f I=>
   refine⟨(λ A=>(by cases A)),CallsIn.inRound l (callsIn_wide.2 (Calls.mono h λ e U E=>?_))⟩
   grind
  | row L I=>exact⟨(λ A=>(by cases A)),AFO (Rows.mono h λ _ _ E=>q _ _ E)⟩
  | _=>exact(h:False).elim
 | halt x O=>
  cases x with
  | panic v=>exact h
  | _=>exact(h:False).elim
def LG(A:∀(i:Nat)(o:Oper),ops[i]?=some o->∀c,o.op≠.defer c)(r:¬LetsOut Q):∀(fuel:Nat)(B:Array Bool)(a:Act)(w:World),wpAny P md ops Q fuel B a w->wpAnyIn (Fence.wide.inRound l) n P md ops Q fuel B a w
 | 0,_,_,_,h=>h
 | fuel+1,B,a,w,h=>by
  refine⟨h.1,λ i J=>?_⟩;have q:=h.2 i J;unfold wpOp at q;unfold wpOpIn;cases ho:ops[i]? with
  | none=>rw[ho]at q;exact LG A r fuel _ _ _ q
  | some o=>
   rw[ho]at q;simp only at q |-
   split;rename_i hw;rw[if_pos hw]at q;rcases q with q|q;exact ADj (A i o ho) r (λ E K I=>LG A r fuel _ E K I) q;exact absurd q.2 r;rename_i hw;rw[if_neg hw]at q;exact⟨λ f _=>trivial,LG A r fuel _ _ _ q⟩
def Us{id a w}(r:P.follows .mixedOrders=true)(q:∀(i:Nat) o ,ops[i]?=some o->∀c,o.op≠.defer c)(f:¬LetsOut Q)(A:S w.drew)(h:wpAnyH P .any ops Q S ops.size (Array.replicate ops.size false) a w.drew):(Code.region id ops true).wpIn (Fence.wide.inRound l) n P Q a w:=
 wpIn_region_any r (LG q f _ _ _ _ (wpAny_of_held _ _ _ _ h))
end
def PH{ops:Array Oper}(h:(ops.all λ o=>match o.op with | .defer _=>false|_=>true)=true):∀(i:Nat) o ,ops[i]?=some o->∀c,o.op≠.defer c:=λ i o f c e=>by grind
def AEu(l m)(u0 u1 u2 u3 u4 u5 u6 u7 u8 u9 u10 u11 u12 u13 u14 u15 u16 u17 u18 u19 u20 u21 u22 u23 u24 u25 u26 u27 u28 u29 u30 u31 u32 u33 u34 u35 u36 u37 u38 u39 u40 u41 u42 u43 u44 u45 u46 u47 u48 u49 u50 u51 u52 u53 u54 u55 u56 u57 u58 u59 u60 u61 u62 u63 u64 u65 u66 u67 u68 u69 u70 u71 u72:Value)(B10 B11 b n σ T r:Nat)(W Q)(hL:¬LetsOut Q)(hQ:∀c a w,¬Q (.panic c) a w)(hn:n<=10)(K:IntKind.i64.wrap (2 ^ n)=(T:Int))(L:IntKind.i64.wrap ((T:Int)-1)=(T:Int)-1)(hr:Go.bits BinOp.and IntKind.i64 (σ:Int) ((T:Int)-1)=(r:Int))(q:W.cell? ⟨B10,0,none⟩=some (.pointer (some ⟨b,0,none⟩)))(A:W.cell? ⟨B11,0,none⟩=some (.int .i64 (σ:Int)))(O:Calls prog 203 #[.pointer (some ⟨b,0,none⟩),.int .i64 (n:Int),.int .i64 (r:Int)] W.drew λ e J=>e=.returned (.int .i64 0)/\(J.cell? ⟨B10,0,none⟩=some (.pointer (some ⟨b,0,none⟩))/\J.cell? ⟨B11,0,none⟩=some (.int .i64 (σ:Int)))/\Q .normal { tmps:=#[u0,u1,u2,u3,u4,u5,u6,u7,u8,u9,Value.pointer (some ⟨B10,0,none⟩),Value.pointer (some ⟨B11,0,none⟩),u12,u13,Value.int .i64 (n:Int),u15,u16,u17,u18,u19,u20,u21,u22,u23,u24,u25,u26,u27,u28,u29,u30,u31,u32,u33,u34,u35,u36,u37,u38,u39,u40,u41,u42,u43,u44,Value.pointer (some ⟨b,0,none⟩),Value.int .i64 (n:Int),Value.int .i64 (σ:Int),Value.int .i64 (n:Int),Value.int .i64 (T:Int),Value.int .i64 ((T:Int)-1),Value.int .i64 (r:Int),Value.int .i64 0,u53,u54,u55,u56,u57,u58,u59,u60,u61,u62,u63,u64,u65,u66,u67,u68,u69,u70,u71,u72],defers:=[] } J):
 (Code.region 12 #[{ dst:=some 45,op:=Op.load 284 (Operand.tmp 10),type:=284,pos:="fse.go:93",after:=#[],guard:=none },{ dst:=some 46,op:=Op.move (Operand.tmp 14),type:=3,pos:="fse.go:93",after:=#[],guard:=none },{ dst:=some 47,op:=Op.load 3 (Operand.tmp 11),type:=3,pos:="fse.go:93",after:=#[],guard:=none },{ dst:=some 48,op:=Op.move (Operand.tmp 14),type:=3,pos:="fse.go:93",after:=#[],guard:=none },{ dst:=some 49,op:=Op.binOp BinOp.shl 3 (Operand.const (Value.int IntKind.i64 1)) (Operand.tmp 48) 3,type:=3,pos:="fse.go:93",after:=#[{ on:=3,ground:=Ground.data }],guard:=none },{ dst:=some 50,op:=Op.binOp BinOp.sub 3 (Operand.tmp 49) (Operand.const (Value.int IntKind.i64 1)) 3,type:=3,pos:="fse.go:93",after:=#[{ on:=4,ground:=Ground.data }],guard:=none },{ dst:=some 51,op:=Op.binOp BinOp.and 3 (Operand.tmp 47) (Operand.tmp 50) 3,type:=3,pos:="fse.go:93",after:=#[{ on:=2,ground:=Ground.data },{ on:=5,ground:=Ground.data }],guard:=none },{ dst:=some 52,op:=Op.call { callee:=Callee.value (Operand.func 203),args:=#[Operand.tmp 45,Operand.tmp 46,Operand.tmp 51],argTypes:=#[284,3,3] },type:=29,pos:="fse.go:93",after:=#[{ on:=0,ground:=Ground.data },{ on:=1,ground:=Ground.data },{ on:=6,ground:=Ground.data }],guard:=none }] true).wpIn (Fence.wide.inRound l) m prog Q { tmps:=#[u0,u1,u2,u3,u4,u5,u6,u7,u8,u9,Value.pointer (some ⟨B10,0,none⟩),Value.pointer (some ⟨B11,0,none⟩),u12,u13,Value.int .i64 (n:Int),u15,u16,u17,u18,u19,u20,u21,u22,u23,u24,u25,u26,u27,u28,u29,u30,u31,u32,u33,u34,u35,u36,u37,u38,u39,u40,u41,u42,u43,u44,u45,u46,u47,u48,u49,u50,u51,u52,u53,u54,u55,u56,u57,u58,u59,u60,u61,u62,u63,u64,u65,u66,u67,u68,u69,u70,u71,u72],defers:=[] } W:=by
 have hm:prog.follows .mixedOrders=true:=by kernel_rfl
 have B:∀(dst:Option Tmp)(v:Value) c a w,Q (.panic c) (a.put dst v) w->Q (.panic c) a w:=λ dst v c a w h=>absurd h (hQ c _ w);have U:=z6 O;have Y:=z6 K;have Z:=z6 L;have X:=z6 hr;have HN:Hid (min n 64=n):=by show _=_;omega
 clear O K L hr;refine Us (S:=(λ f:World=>f.cell? ⟨B10,0,none⟩=some (.pointer (some ⟨b,0,none⟩))/\f.cell? ⟨B11,0,none⟩=some (.int .i64 (σ:Int)))) hm (PH (by kernel_rfl)) hL ⟨q,A⟩ ?_;refine wpAnyH_take (i:=0) (oi:={ dst:=some 45,op:=Op.load 284 (Operand.tmp 10),type:=284,pos:="fse.go:93",after:=#[],guard:=none }) (v:=Value.pointer (some ⟨b,0,none⟩)) rfl (by kernel_rfl) (by kernel_rfl) (by kernel_rfl) (B _ _) (Or.inl ⟨by rfl,?_⟩) ⟨q,A⟩ ?_
 .rintro f ⟨E,I⟩;go_simp
 try simp only[zq]
 refine wpAnyH_take (i:=1) (oi:={ dst:=some 46,op:=Op.move (Operand.tmp 14),type:=3,pos:="fse.go:93",after:=#[],guard:=none }) (v:=Value.int .i64 (n:Int)) rfl (by kernel_rfl) (by kernel_rfl) (by kernel_rfl) (B _ _) (Or.inl ⟨by rfl,?_⟩) ⟨q,A⟩ ?_
 .rintro f ⟨E,I⟩;go_simp
 try simp only[zq]
 refine wpAnyH_take (i:=2) (oi:={ dst:=some 47,op:=Op.load 3 (Operand.tmp 11),type:=3,pos:="fse.go:93",after:=#[],guard:=none }) (v:=Value.int .i64 (σ:Int)) rfl (by kernel_rfl) (by kernel_rfl) (by kernel_rfl) (B _ _) (Or.inl ⟨by rfl,?_⟩) ⟨q,A⟩ ?_
 .rintro f ⟨E,I⟩;go_simp
 try simp only[zq]
 refine wpAnyH_take (i:=3) (oi:={ dst:=some 48,op:=Op.move (Operand.tmp 14),type:=3,pos:="fse.go:93",after:=#[],guard:=none }) (v:=Value.int .i64 (n:Int)) rfl (by kernel_rfl) (by kernel_rfl) (by kernel_rfl) (B _ _) (Or.inl ⟨by rfl,?_⟩) ⟨q,A⟩ ?_
 .rintro f ⟨E,I⟩;go_simp
 try simp only[zq]
 refine wpAnyH_take (i:=4) (oi:={ dst:=some 49,op:=Op.binOp BinOp.shl 3 (Operand.const (Value.int IntKind.i64 1)) (Operand.tmp 48) 3,type:=3,pos:="fse.go:93",after:=#[{ on:=3,ground:=Ground.data }],guard:=none }) (v:=Value.int .i64 (T:Int)) rfl (by kernel_rfl) (by kernel_rfl) (by kernel_rfl) (B _ _) (Or.inl ⟨by rfl,?_⟩) ⟨q,A⟩ ?_
 .rintro f ⟨E,I⟩;go_simp;exact Y.o
 try simp only[zq]
 refine wpAnyH_take (i:=5) (oi:={ dst:=some 50,op:=Op.binOp BinOp.sub 3 (Operand.tmp 49) (Operand.const (Value.int IntKind.i64 1)) 3,type:=3,pos:="fse.go:93",after:=#[{ on:=4,ground:=Ground.data }],guard:=none }) (v:=Value.int .i64 ((T:Int)-1)) rfl (by kernel_rfl) (by kernel_rfl) (by kernel_rfl) (B _ _) (Or.inl ⟨by rfl,?_⟩) ⟨q,A⟩ ?_
 .rintro f ⟨E,I⟩;go_simp;exact Z.o
 try simp only[zq]
 refine wpAnyH_take (i:=6) (oi:={ dst:=some 51,op:=Op.binOp BinOp.and 3 (Operand.tmp 47) (Operand.tmp 50) 3,type:=3,pos:="fse.go:93",after:=#[{ on:=2,ground:=Ground.data },{ on:=5,ground:=Ground.data }],guard:=none }) (v:=Value.int .i64 (r:Int)) rfl (by kernel_rfl) (by kernel_rfl) (by kernel_rfl) (B _ _) (Or.inl ⟨by rfl,?_⟩) ⟨q,A⟩ ?_
 .rintro f ⟨E,I⟩;go_simp;exact X.o
 try simp only[zq]
 refine wpAnyH_ready (rs:=[7]) (by kernel_rfl) (by simp) (AllReadyH.cons (o:={ dst:=some 52,op:=Op.call { callee:=Callee.value (Operand.func 203),args:=#[Operand.tmp 45,Operand.tmp 46,Operand.tmp 51],argTypes:=#[284,3,3] },type:=29,pos:="fse.go:93",after:=#[{ on:=0,ground:=Ground.data },{ on:=1,ground:=Ground.data },{ on:=6,ground:=Ground.data }],guard:=none }) rfl ?_ AllReadyH.nil);intro K' hK;rw[if_pos (by rfl)];go_simp;refine U.o.mono ?_;rintro e J ⟨rfl,hS,a0⟩;refine hK.out _ _ hS (λ _=>wpAnyH_done (by kernel_rfl) ?_ _);simpa only[Act.put,List.setIfInBounds_toArray,List.set_cons_zero,List.set_cons_succ]using a0
def AEv(l m)(u0 u1 u2 u3 u4 u5 u6 u7 u8 u9 u10 u11 u12 u13 u14 u15 u16 u17 u18 u19 u20 u21 u22 u23 u24 u25 u26 u27 u28 u29 u30 u31 u32 u33 u34 u35 u36 u37 u38 u39 u40 u41 u42 u43 u44 u45 u46 u47 u48 u49 u50 u51 u52 u53 u54 u55 u56 u57 u58 u59 u60 u61 u62 u63 u64 u65 u66 u67 u68 u69 u70 u71 u72:Value)(B3 B8 g9 B11 sb so K O z k n σ L X A P τ:Nat)(W Q)(hL:¬LetsOut Q)(hQ:∀c a w,¬Q (.panic c) a w)(hn:n<=10)(a6:(0:Int)<=(k:Int))(a7:(k:Int)<(K:Int))(hX:(σ:Int) / 2 ^ n=(X:Int))(hA:IntKind.i64.wrap ((X:Int)-(L:Int))=(A:Int))(hτ:IntKind.i64.wrap ((z:Int)+(P:Int))=(τ:Int))(hS:W.cell? ⟨B8,0,none⟩=some (.int .i64 (z:Int))/\W.cell? ⟨B3,0,none⟩=some (.slice (some ⟨sb,so,none⟩) K O)/\W.cell? ⟨sb,so+k,none⟩=some (.int .i64 (L:Int)))(Z:W.cell? ⟨B11,0,none⟩=some (.int .i64 (σ:Int)))(hp:Calls prog 232 #[.pointer (some ⟨g9,0,none⟩),.int .i64 (k:Int),.int .i64 (A:Int)] W.drew λ e Y=>e=.returned (.int .i64 (P:Int))/\∃j,Y=W.drew.drewN j)(a1:W.frozen? ⟨B11,0,none⟩=false)(hf:∀j,(((W.drewN j).setCell ⟨B11,0,none⟩ (.int .i64 (τ:Int))).cell? ⟨B8,0,none⟩=some (.int .i64 (z:Int))/\((W.drewN j).setCell ⟨B11,0,none⟩ (.int .i64 (τ:Int))).cell? ⟨B3,0,none⟩=some (.slice (some ⟨sb,so,none⟩) K O)/\((W.drewN j).setCell ⟨B11,0,none⟩ (.int .i64 (τ:Int))).cell? ⟨sb,so+k,none⟩=some (.int .i64 (L:Int)))/\Q .normal { tmps:=#[u0,u1,u2,Value.pointer (some ⟨B3,0,none⟩),u4,u5,u6,u7,Value.pointer (some ⟨B8,0,none⟩),Value.pointer (some ⟨g9,0,none⟩),u10,Value.pointer (some ⟨B11,0,none⟩),u12,Value.int .i64 (k:Int),Value.int .i64 (n:Int),u15,u16,u17,u18,u19,u20,u21,u22,u23,u24,u25,u26,u27,u28,u29,u30,u31,u32,u33,u34,u35,u36,u37,u38,u39,u40,u41,u42,u43,u44,u45,u46,u47,u48,u49,u50,u51,u52,Value.int .i64 (z:Int),Value.int .i64 (k:Int),Value.int .i64 (σ:Int),Value.int .i64 (n:Int),Value.int .i64 (X:Int),Value.slice (some ⟨sb,so,none⟩) K O,Value.int .i64 (k:Int),Value.pointer (some ⟨sb,so+k,none⟩),Value.int .i64 (L:Int),Value.int .i64 (A:Int),Value.int .i64 (P:Int),Value.int .i64 (τ:Int),u65,u66,u67,u68,u69,u70,u71,u72],defers:=[] } ((W.drewN j).setCell ⟨B11,0,none⟩ (.int .i64 (τ:Int)))):
 (Code.region 13 #[{ dst:=some 53,op:=Op.load 3 (Operand.tmp 8),type:=3,pos:="fse.go:94",after:=#[],guard:=none },{ dst:=some 54,op:=Op.move (Operand.tmp 13),type:=3,pos:="fse.go:94",after:=#[],guard:=none },{ dst:=some 55,op:=Op.load 3 (Operand.tmp 11),type:=3,pos:="fse.go:94",after:=#[],guard:=none },{ dst:=some 56,op:=Op.move (Operand.tmp 14),type:=3,pos:="fse.go:94",after:=#[],guard:=none },{ dst:=some 57,op:=Op.binOp BinOp.shr 3 (Operand.tmp 55) (Operand.tmp 56) 3,type:=3,pos:="fse.go:94",after:=#[{ on:=2,ground:=Ground.data },{ on:=3,ground:=Ground.data }],guard:=none },{ dst:=some 58,op:=Op.load 23 (Operand.tmp 3),type:=23,pos:="fse.go:94",after:=#[],guard:=none },{ dst:=some 59,op:=Op.move (Operand.tmp 13),type:=3,pos:="fse.go:94",after:=#[],guard:=none },{ dst:=some 60,op:=Op.indexAddr 23 (Operand.tmp 58) (Operand.tmp 59),type:=0,pos:="fse.go:94",after:=#[{ on:=5,ground:=Ground.data },{ on:=6,ground:=Ground.data }],guard:=none },{ dst:=some 61,op:=Op.load 3 (Operand.tmp 60),type:=3,pos:="fse.go:94",after:=#[{ on:=7,ground:=Ground.data }],guard:=none },{ dst:=some 62,op:=Op.binOp BinOp.sub 3 (Operand.tmp 57) (Operand.tmp 61) 3,type:=3,pos:="fse.go:94",after:=#[{ on:=4,ground:=Ground.data },{ on:=8,ground:=Ground.data }],guard:=none },{ dst:=some 63,op:=Op.call { callee:=Callee.value (Operand.func 232),args:=#[Operand.tmp 9,Operand.tmp 54,Operand.tmp 62],argTypes:=#[323,3,3] },type:=3,pos:="fse.go:94",after:=#[{ on:=1,ground:=Ground.data },{ on:=9,ground:=Ground.data }],guard:=none },{ dst:=some 64,op:=Op.binOp BinOp.add 3 (Operand.tmp 53) (Operand.tmp 63) 3,type:=3,pos:="fse.go:94",after:=#[{ on:=0,ground:=Ground.data },{ on:=10,ground:=Ground.data }],guard:=none },{ dst:=none,op:=Op.store 3 (Operand.tmp 11) (Operand.tmp 64),type:=0,pos:="fse.go:94",after:=#[{ on:=11,ground:=Ground.data },{ on:=10,ground:=Ground.chain },{ on:=0,ground:=Ground.phase },{ on:=1,ground:=Ground.phase },{ on:=2,ground:=Ground.phase },{ on:=3,ground:=Ground.phase },{ on:=4,ground:=Ground.phase },{ on:=5,ground:=Ground.phase },{ on:=6,ground:=Ground.phase },{ on:=7,ground:=Ground.phase },{ on:=8,ground:=Ground.phase },{ on:=9,ground:=Ground.phase },{ on:=10,ground:=Ground.phase },{ on:=11,ground:=Ground.phase }],guard:=none }] true).wpIn (Fence.wide.inRound l) m prog Q { tmps:=#[u0,u1,u2,Value.pointer (some ⟨B3,0,none⟩),u4,u5,u6,u7,Value.pointer (some ⟨B8,0,none⟩),Value.pointer (some ⟨g9,0,none⟩),u10,Value.pointer (some ⟨B11,0,none⟩),u12,Value.int .i64 (k:Int),Value.int .i64 (n:Int),u15,u16,u17,u18,u19,u20,u21,u22,u23,u24,u25,u26,u27,u28,u29,u30,u31,u32,u33,u34,u35,u36,u37,u38,u39,u40,u41,u42,u43,u44,u45,u46,u47,u48,u49,u50,u51,u52,u53,u54,u55,u56,u57,u58,u59,u60,u61,u62,u63,u64,u65,u66,u67,u68,u69,u70,u71,u72],defers:=[] } W:=by
 have hm:prog.follows .mixedOrders=true:=by kernel_rfl
 have r:∀(dst:Option Tmp)(v:Value) c a w,Q (.panic c) (a.put dst v) w->Q (.panic c) a w:=λ dst v c a w h=>absurd h (hQ c _ w);have HP:=z6 hp;have T:=z6 hf;have HX:=z6 hX;have HA:=z6 hA;have a0:=z6 hτ;have f:=z6 hS;clear hp hX hA hτ hf hS;refine Us (S:=(λ q:World=>q.cell? ⟨B8,0,none⟩=some (.int .i64 (z:Int))/\q.cell? ⟨B3,0,none⟩=some (.slice (some ⟨sb,so,none⟩) K O)/\q.cell? ⟨sb,so+k,none⟩=some (.int .i64 (L:Int)))) hm (PH (by kernel_rfl)) hL f.o ?_;refine wpAnyH_take (i:=0) (oi:={ dst:=some 53,op:=Op.load 3 (Operand.tmp 8),type:=3,pos:="fse.go:94",after:=#[],guard:=none }) (v:=Value.int .i64 (z:Int)) rfl (by kernel_rfl) (by kernel_rfl) (by kernel_rfl) (r _ _) (Or.inl ⟨by rfl,?_⟩) f.o ?_
 .rintro q ⟨B,E,I⟩;go_simp
 try simp only[zq]
 refine wpAnyH_take (i:=1) (oi:={ dst:=some 54,op:=Op.move (Operand.tmp 13),type:=3,pos:="fse.go:94",after:=#[],guard:=none }) (v:=Value.int .i64 (k:Int)) rfl (by kernel_rfl) (by kernel_rfl) (by kernel_rfl) (r _ _) (Or.inl ⟨by rfl,?_⟩) f.o ?_
 .rintro q ⟨B,E,I⟩;go_simp
 try simp only[zq]
 refine wpAnyH_take (i:=3) (oi:={ dst:=some 56,op:=Op.move (Operand.tmp 14),type:=3,pos:="fse.go:94",after:=#[],guard:=none }) (v:=Value.int .i64 (n:Int)) rfl (by kernel_rfl) (by kernel_rfl) (by kernel_rfl) (r _ _) (Or.inl ⟨by rfl,?_⟩) f.o ?_
 .rintro q ⟨B,E,I⟩;go_simp
 try simp only[zq]
 refine wpAnyH_take (i:=5) (oi:={ dst:=some 58,op:=Op.load 23 (Operand.tmp 3),type:=23,pos:="fse.go:94",after:=#[],guard:=none }) (v:=Value.slice (some ⟨sb,so,none⟩) K O) rfl (by kernel_rfl) (by kernel_rfl) (by kernel_rfl) (r _ _) (Or.inl ⟨by rfl,?_⟩) f.o ?_
 .rintro q ⟨B,E,I⟩;go_simp
 try simp only[zq]
 refine wpAnyH_take (i:=6) (oi:={ dst:=some 59,op:=Op.move (Operand.tmp 13),type:=3,pos:="fse.go:94",after:=#[],guard:=none }) (v:=Value.int .i64 (k:Int)) rfl (by kernel_rfl) (by kernel_rfl) (by kernel_rfl) (r _ _) (Or.inl ⟨by rfl,?_⟩) f.o ?_
 .rintro q ⟨B,E,I⟩;go_simp
 try simp only[zq]
 refine wpAnyH_take (i:=7) (oi:={ dst:=some 60,op:=Op.indexAddr 23 (Operand.tmp 58) (Operand.tmp 59),type:=0,pos:="fse.go:94",after:=#[{ on:=5,ground:=Ground.data },{ on:=6,ground:=Ground.data }],guard:=none }) (v:=Value.pointer (some ⟨sb,so+k,none⟩)) rfl (by kernel_rfl) (by kernel_rfl) (by kernel_rfl) (r _ _) (Or.inl ⟨by rfl,?_⟩) f.o ?_
 .rintro q ⟨B,E,I⟩;go_simp
 try simp only[zq]
 refine wpAnyH_take (i:=8) (oi:={ dst:=some 61,op:=Op.load 3 (Operand.tmp 60),type:=3,pos:="fse.go:94",after:=#[{ on:=7,ground:=Ground.data }],guard:=none }) (v:=Value.int .i64 (L:Int)) rfl (by kernel_rfl) (by kernel_rfl) (by kernel_rfl) (r _ _) (Or.inl ⟨by rfl,?_⟩) f.o ?_
 .rintro q ⟨B,E,I⟩;go_simp
 try simp only[zq]
 refine wpAnyH_ready (rs:=[2]) (by kernel_rfl) (by simp) (AllReadyH.cons (o:={ dst:=some 55,op:=Op.load 3 (Operand.tmp 11),type:=3,pos:="fse.go:94",after:=#[],guard:=none }) rfl ?_ AllReadyH.nil);intro U J;rw[if_pos (by rfl)];have a3:=Z;go_simp;refine J.out _ _ f.o (λ _=>?_);clear J;try simp only[zq]
 refine wpAnyH_take (i:=4) (oi:={ dst:=some 57,op:=Op.binOp BinOp.shr 3 (Operand.tmp 55) (Operand.tmp 56) 3,type:=3,pos:="fse.go:94",after:=#[{ on:=2,ground:=Ground.data },{ on:=3,ground:=Ground.data }],guard:=none }) (v:=Value.int .i64 (X:Int)) rfl (by kernel_rfl) (by kernel_rfl) (by kernel_rfl) (r _ _) (Or.inl ⟨by rfl,?_⟩) f.o ?_
 .rintro q ⟨B,E,I⟩;go_simp;exact HX.o
 try simp only[zq]
 refine wpAnyH_take (i:=9) (oi:={ dst:=some 62,op:=Op.binOp BinOp.sub 3 (Operand.tmp 57) (Operand.tmp 61) 3,type:=3,pos:="fse.go:94",after:=#[{ on:=4,ground:=Ground.data },{ on:=8,ground:=Ground.data }],guard:=none }) (v:=Value.int .i64 (A:Int)) rfl (by kernel_rfl) (by kernel_rfl) (by kernel_rfl) (r _ _) (Or.inl ⟨by rfl,?_⟩) f.o ?_
 .rintro q ⟨B,E,I⟩;go_simp;exact HA.o
 try simp only[zq]
 refine wpAnyH_ready (rs:=[10]) (by kernel_rfl) (by simp) (AllReadyH.cons (o:={ dst:=some 63,op:=Op.call { callee:=Callee.value (Operand.func 232),args:=#[Operand.tmp 9,Operand.tmp 54,Operand.tmp 62],argTypes:=#[323,3,3] },type:=3,pos:="fse.go:94",after:=#[{ on:=1,ground:=Ground.data },{ on:=9,ground:=Ground.data }],guard:=none }) rfl ?_ AllReadyH.nil);intro U J;rw[if_pos (by rfl)];go_simp;refine HP.o.mono ?_;rintro e Y ⟨rfl,j,rfl⟩;refine J.out _ _ f.o (λ _=>?_);clear J;try simp only[zq]
 refine wpAnyH_take (i:=11) (oi:={ dst:=some 64,op:=Op.binOp BinOp.add 3 (Operand.tmp 53) (Operand.tmp 63) 3,type:=3,pos:="fse.go:94",after:=#[{ on:=0,ground:=Ground.data },{ on:=10,ground:=Ground.data }],guard:=none }) (v:=Value.int .i64 (τ:Int)) rfl (by kernel_rfl) (by kernel_rfl) (by kernel_rfl) (r _ _) (Or.inl ⟨by rfl,?_⟩) f.o ?_
 .rintro q ⟨B,E,I⟩;go_simp;exact a0.o
 try simp only[zq]
 refine wpAnyH_ready (rs:=[12]) (by kernel_rfl) (by simp) (AllReadyH.cons (o:={ dst:=none,op:=Op.store 3 (Operand.tmp 11) (Operand.tmp 64),type:=0,pos:="fse.go:94",after:=#[{ on:=11,ground:=Ground.data },{ on:=10,ground:=Ground.chain },{ on:=0,ground:=Ground.phase },{ on:=1,ground:=Ground.phase },{ on:=2,ground:=Ground.phase },{ on:=3,ground:=Ground.phase },{ on:=4,ground:=Ground.phase },{ on:=5,ground:=Ground.phase },{ on:=6,ground:=Ground.phase },{ on:=7,ground:=Ground.phase },{ on:=8,ground:=Ground.phase },{ on:=9,ground:=Ground.phase },{ on:=10,ground:=Ground.phase },{ on:=11,ground:=Ground.phase }],guard:=none }) rfl ?_ AllReadyH.nil);intro U J;rw[if_pos (by rfl)];have a4:=Z
 have a5:=a1;go_simp;refine J.out _ _ (T.o (1+j)).1 (λ _=>wpAnyH_done (by kernel_rfl) ?_ _);have a2:=(T.o (1+j)).2;try simp only[zq]
 exact a2
attribute [local go_sem] Oper.semAt_some
def Lb{w:World}{e size v n xs}(h:w.ownsRow 0 e size v n xs){k}(q:v.ownBlock=some k):∃f,w.heap[k]?=some (.cells f e (0,0)):=by
 rcases h.2 with⟨rfl,_⟩|⟨g,cap,f,rfl,_,r,_⟩
 .cases q
 .simp only[Value.ownBlock,Option.some.injEq]at q
  grind
abbrev Gs(s:List Int):Type:=Nat×{ x:Int // 0<=x/\x.toNat<s.length/\s.getD x.toNat 0≠0 }
def MG(s:List Int)(x:Gs s):Array Value:=#[.int .i64 (x.1:Int),.int .i64 x.2.1]
def EA{s:List Int}(pre:List (Gs s)):List Int:=(pre.map (λ x=>x.2.1)).reverse
def AGu{s}(pre:List (Gs s))(x):EA (pre++[x])=x.2.1::EA pre:=by simp[EA]
structure Es(w W:World)(B3 B8 g9 B10 B11 Bs b:Nat)(sv dv:Value)(s:List Int)(z:Nat)(rv:Value)(σ:Nat)(bs:List Int):Prop where
 b3:W.heap[B3]?=some (.cells #[sv] 23 (0,0))
 b8:W.heap[B8]?=some (.cells #[.int .i64 (z:Int)] 3 (0,0))
 sp:Iv W g9 323 576 (sp (nn s) s.length z z)
 b10:W.heap[B10]?=some (.cells #[.pointer (some ⟨b,0,none⟩)] 284 (0,0))
 b11:W.heap[B11]?=some (.cells #[.int .i64 (σ:Int)] 3 (0,0))
 bx:W.heap[Bs]?=some (.cells #[dv] 23 (0,0))
 wr:Wr W b rv bs
 bel:Below w.heap.size w W
 bn:w.heap.size<=b
 rn:∀k,rv.ownBlock=some k->w.heap.size<=k
 n11:w.heap.size<=B11
 ne:B8≠B11
section
variable {w W W':World} {B3 B8 g9 B10 B11 Bs b:Nat} {sv dv:Value} {s:List Int} {z:Nat} {rv rv':Value} {σ σ':Nat} {bs bs':List Int}
def Es.rvb(h:Es w W B3 B8 g9 B10 B11 Bs b sv dv s z rv σ bs){k}(f:rv.ownBlock=some k):∃c,W.heap[k]?=some (.cells c 5 (0,0)):=Lb h.wr.own f
def Es.ne_wr(h:Es w W B3 B8 g9 B10 B11 Bs b sv dv s z rv σ bs){k c t}(f:W.heap[k]?=some (.cells c t (0,0)))(r:t≠329)(A:t≠5):¬(k=b\/rv.ownBlock=some k):=by
 rintro(e|e)
 .rw[e,h.wr.blk]at f
  grind
 .obtain⟨q,B⟩:=h.rvb e
  grind
def EY{S}(r:AD S W W'){k o}(f:W.heap[k]?=some o)(q:¬S k):W'.heap[k]?=some o:=by rw[r.block k (za0.1 f).1 q];exact f
def Es.put(h:Es w W B3 B8 g9 B10 B11 Bs b sv dv s z rv σ bs)(f:EE W b rv W' rv' bs'):Es w W' B3 B8 g9 B10 B11 Bs b sv dv s z rv' σ bs':=by
 refine⟨EY f.tch h.b3 (h.ne_wr h.b3 (by decide) (by decide)),EY f.tch h.b8 (h.ne_wr h.b8 (by decide) (by decide)),h.sp.tch f.tch (h.ne_wr h.sp (by decide) (by decide)),EY f.tch h.b10 (h.ne_wr h.b10 (by decide) (by decide)),
  EY f.tch h.b11 (h.ne_wr h.b11 (by decide) (by decide)),EY f.tch h.bx (h.ne_wr h.bx (by decide) (by decide)),f.wr,h.bel.trans (f.tch.below h.bel.size (λ k q=>?_)),h.bn,λ k q=>?_,h.n11,h.ne⟩
 .rcases q with e|e;rw[e];exact h.bn;exact h.rn k e
 .rcases f.fresh k q with e|e;exact h.rn k e;have:=h.bel.size;omega
def Es.tch{S}(h:Es w W B3 B8 g9 B10 B11 Bs b sv dv s z rv σ bs)(f:AD S W W')(q:∀k c t,W.heap[k]?=some (.cells c t (0,0))->¬S k)(A:∀k,S k->w.heap.size<=k):Es w W' B3 B8 g9 B10 B11 Bs b sv dv s z rv σ bs:=by
 refine⟨EY f h.b3 (q _ _ _ h.b3),EY f h.b8 (q _ _ _ h.b8),h.sp.tch f (q _ _ _ h.sp),EY f h.b10 (q _ _ _ h.b10),EY f h.b11 (q _ _ _ h.b11),EY f h.bx (q _ _ _ h.bx),
  h.wr.tch f (q _ _ _ h.wr.blk) (λ k r=>by obtain⟨c,hc⟩:=h.rvb r;grind),h.bel.trans (f.below h.bel.size A),h.bn,h.rn,h.n11,h.ne⟩
def Es.blw(h:Es w W B3 B8 g9 B10 B11 Bs b sv dv s z rv σ bs)(f:Below W.heap.size W W'):Es w W' B3 B8 g9 B10 B11 Bs b sv dv s z rv σ bs:=
 h.tch (S:=λ _=>False) (AD.of_below f) (λ _ _ _ _ e=>e) (λ _ e=>e.elim)
def Es.state(h:Es w W B3 B8 g9 B10 B11 Bs b sv dv s z rv σ bs)(τ:Nat):Es w (W.setCell ⟨B11,0,none⟩ (.int .i64 (τ:Int))) B3 B8 g9 B10 B11 Bs b sv dv s z rv τ bs:=by
 have f:AD (λ k=>k=B11) W (W.setCell ⟨B11,0,none⟩ (.int .i64 (τ:Int))):=AD.setCell (AD.refl (λ k=>k=B11) W) (p:=⟨B11,0,none⟩) (λ _=>rfl) _;have q:∀{k:Nat} {c:Array Value} {t:TypeId},W.heap[k]?=some (.cells c t (0,0))->t≠3->¬k=B11:=λ r A e=>by
  rw[e,h.b11]at r
  grind
 refine⟨EY f h.b3 (q h.b3 (by decide)),EY f h.b8 h.ne,h.sp.tch f (q h.sp (by decide)),EY f h.b10 (q h.b10 (by decide)),?_,EY f h.bx (q h.bx (by decide)),
  h.wr.tch f (λ e=>q h.wr.blk (by decide) e) (λ k r=>by obtain⟨c,hc⟩:=h.rvb r;grind),h.bel.trans (f.below h.bel.size (λ k e=>by rw[e];exact h.n11)),h.bn,h.rn,h.n11,h.ne⟩
 rw[heap_setCell_same W B11 0 _ _ _ h.b11];simp
def Es.own(h:Es w W B3 B8 g9 B10 B11 Bs b sv dv s z rv σ bs){f}(A:W.grownBy W' f)(hr:∀r,f=some r->w.heap.size<=r/\∃o,W.heap[r]?=some o/\o.isCells=false):Es w W' B3 B8 g9 B10 B11 Bs b sv dv s z rv σ bs:=by have E:AD (λ k=>f=some k) W W':=(AD.refl _ W).grown A (λ _ _ e=>e);refine h.tch E (λ k c t B e=>?_) (λ k e=>(hr k e).1);obtain⟨_,o,q,hc⟩:=hr k e;rw[B]at q;obtain rfl:=zv0 q;simp[Obj.isCells]at hc
end
def Ni(σ n):Aa ((σ % 2 ^ n:Nat):Int) n=Aa (σ:Int) n:=by
 refine Hc (by rw[Bc,Bc]) (λ i f=>?_);rw[Bc]at f;rw[Ik,Ik,if_pos f,if_pos f];have e:∀m:Nat,((m:Int) / 2 ^ i % 2)=((m / 2 ^ i % 2:Nat):Int):=λ m=>by simp
 rw[e,e];congr 1;have q:2 ^ n=2 ^ i*2 ^ (n-i):=by rw[<-Nat.pow_add];grind
 rw[q,Nat.mod_mul_right_div_self];have r:2 ^ (n-i)=2*2 ^ (n-i-1):=by rw[<-Nat.pow_succ'];grind
 simp_all
def XX(σ n T:Nat)(f:2 ^ n=T)(B:σ<1024)(q:n<=10):Go.bits BinOp.and IntKind.i64 (σ:Int) ((T:Int)-1)=((σ % T:Nat):Int):=by
 have r:0<T:=by grind
 have A:T<=1024:=by rw[<-f];exact Nat.pow_le_pow_right (by decide) q
 have e:(T:Int)-1=((T-1:Nat):Int):=by omega
 rw[e,(bits_nat .i64 62 (by decide) Bp σ (T-1) (by omega) (by omega)).1,<-f,Nat.and_two_pow_sub_one_eq_mod]
def AAl{s f}(ha:C9 s f=true)(B:s.getD (s.length-1) 0≠0)(E:0<s.length):∃g,
 (∀j,j<f.length->MG s (g j)=#[.int .i64 ((f.length-1-j:Nat):Int),.int .i64 (f[f.length-1-j]?.getD 0)])/\EA (Ci g f.length)=f:=by
 unfold C9 at ha;rw[zg1]at ha;refine⟨λ j=>if h:f.length-1-j<f.length then(f.length-1-j,⟨f.getD (f.length-1-j) 0,ha _ h⟩)else(0,⟨((s.length-1:Nat):Int),by omega,by omega,by grind⟩),λ j A=>?_,?_⟩
 .have e:f.length-1-j<f.length:=by omega
  simp only[dif_pos e,MG,AP]
 .refine Hc (by simp[EA,Ci]) (λ i q=>?_);have r:i<f.length:=by simpa[EA,Ci]using q
  have e:f.length-1-i<f.length:=by omega
  simp only[EA,Ci,List.map_map];rw[AP,List.getElem?_reverse (by grind)];simp only[zu0,List.length_range];rw[zw0,List.getElem?_range e]
  grind
def ABj{w W W' B3 B8 g9 B10 B11 Bs b sv dv s z rv rv' σ σ' bs bs'}(B)(h:Es w W B3 B8 g9 B10 B11 Bs b sv dv s z rv σ bs)(A:Es w W' B3 B8 g9 B10 B11 Bs b sv dv s z rv' σ' bs')(r:AD (λ k=>(k=b\/rv.ownBlock=some k)\/k=B11) W W'):KeepsFrom B W W'/\KB w.heap.size Bs W W':=by
 refine⟨⟨r.size,λ k o _ f q=>?_⟩,r.below h.bel.size (λ k f=>?_),λ v hv=>?_⟩;rw[r.block k (za0.1 f).1 ?_];exact f;rintro((e|e)|e);rw[e,h.wr.blk]at f;obtain rfl:=zv0 f;simp[Obj.isCells]at q;obtain⟨c,hc⟩:=h.rvb e;rw[hc]at f;obtain rfl:=zv0 f;simp[Obj.isCells]at q;rw[e,h.b11]at f;obtain rfl:=zv0 f;simp[Obj.isCells]at q;rcases f with(e|e)|e;rw[e];exact h.bn;exact h.rn k e;rw[e];exact h.n11;rw[cell_of_row _ _ 0 _ _ (0,0) h.bx]at hv;rw[cell_of_row _ _ 0 _ _ (0,0) A.bx];exact hv
def Zw(sv dv s f)(lg:Nat)(w)(hr:Rd .i64 w sv s)(hd:Rd .i64 w dv f)(hm:A0 s lg=true)(hl:f.length<=65536)(ha:C9 s f=true):
 Calls prog 200 #[sv,.int .i64 lg,dv] w λ e w'=>GW (0,AJ (Cl (nn s) s.length (2 ^ lg) lg f++[1])) w e w':=by
 have HR:=z6 hr;have HD:=z6 hd;obtain⟨L,q,df⟩:∃a c,sv=.slice a s.length c:=by obtain⟨a,c,e,_⟩:=hr;exact⟨a,c,e⟩
 obtain⟨E,dc,DV⟩:∃a c,dv=.slice a f.length c:=by obtain⟨a,c,e,_⟩:=hd;exact⟨a,c,e⟩
 subst df DV;have HM:=z6 hm;obtain⟨dk,e,hk⟩:=Ca.of hm;obtain rfl:lg=dk:=by exact_mod_cast e
 have HK:=z6 hk;have HA:=z6 ha;have d5:=hk.lo;have d6:=hk.hi;have d7:=hk.len;obtain⟨z,hz,dx,dy,du,_⟩:=Jd d5 d6;have a5:Hid (Below w.heap.size w (w.alloc (.cells #[.slice L s.length q] 23))):=(Below.refl _ _).alloc (AE _) _;obtain⟨cc,c2⟩:=zero_of_info TL;have bg:=z6 c2;obtain⟨ZS,b2⟩:=exH ((Au 576 (λ _=>0)).toArray);rw[b2.o]at cc;have bi:Hid (ZS.size=576):=by show _=_;rw[<-b2.o,It]
 have dt:decide ((65536:Int)<(f.length:Int))=false:=by rw[AT];omega
 rw[hz.o];clear hr hd hm hk ha e c2;refine(callsIn_wide (n:=6)).1 ?_;refine callsIn_of_wp_marks func200 rfl trivial ?_ rfl;simp only[ntmps200,List.size_toArray,zh0,List.length_nil,Nat.reduceAdd,Nat.reduceSub,Array.replicate_succ,Array.replicate_zero,List.push_toArray,List.append_toArray,List.nil_append,List.cons_append];refine wpIn_wide.2 ?_;go_wp2_with fail;refine(He _ s lg _ (HR.o.below a5.o)).mono ?_;rintro e w1 ⟨rfl,rfl⟩;rw[HM.o];go_wp2_with fail;refine(Q0 _ _ s f _ HK.o.pos HK.o.len hl (HR.o.below a5.o) (HD.o.below a5.o)).mono ?_;rintro e w1 ⟨rfl,rfl⟩;rw[HA.o];go_wp2_with fail
 have ac:Hid (Below w.heap.size w ((w.alloc (.cells #[.slice L s.length q] 23)).alloc (.cells #[.int .i64 (z:Int)] 3))):=a5.o.alloc (by simp) _;refine(AGO _ s lg z _ (HR.o.below ac.o) HK.o hz.o).mono ?_;rintro e O ⟨rfl,a1⟩;obtain⟨FS,a7⟩:=exH (Au 576 (sp (nn s) s.length z z));have aw:Hid (FS.toArray.size=576):=by show _=_;rw[List.size_toArray,<-a7.o,Et]
 have bh:Hid (FS.toArray.all (·.oneCell')=true):=by show _=_;rw[<-a7.o];exact IB _ _
 rw[a7.o];have cm:=z6 a1;have db:w.heap.size+2<=O.heap.size:=by have:=a1.size;simp at this;omega
 have q3:Hid (O.heap[w.heap.size]?=some (.cells #[.slice L s.length q] 23 (0,0))):=by show _=_;rw[a1.block w.heap.size (by simp only[World.size_alloc];omega),Below.heap_alloc _ _ _ (by simp)];exact heap_alloc_new w _
 have q8:Hid (O.heap[w.heap.size+1]?=some (.cells #[.int .i64 (z:Int)] 3 (0,0))):=by show _=_;rw[a1.block (w.heap.size+1) (by simp only[World.size_alloc];omega)];have:=heap_alloc_new (w.alloc (.cells #[.slice L s.length q] 23)) (.cells #[.int .i64 (z:Int)] 3);simpa using this
 have aq:=z6 (ac.o.trans (a1.mono ac.o.size));clear a1 cm;have c8:O.cell? ⟨w.heap.size+1,0,none⟩=some (.int .i64 (z:Int)):=by rw[cell_of_row _ _ 0 _ _ (0,0) q8.o];rfl
 go_wp2_with(refine JA O rfl 323 (.tmp 9) (.tmp 32) rfl ZS FS.toArray rfl rfl (by rw[aw.o];exact bg.o) (by rw[aw.o,bi.o]) bh.o ?_)
 obtain⟨U,a8⟩:=exH (O.alloc (.cells FS.toArray 323));have aj:Below O.heap.size O U:=by rw[<-a8.o];exact(Below.refl _ _).alloc (AE _) _
 have dd:U.heap.size=O.heap.size+1:=by rw[<-a8.o];simp
 have r3:Hid (Iv U O.heap.size 323 576 (sp (nn s) s.length z z)):=by have h:=IC O 323 576 (sp (nn s) s.length z z);rw[a7.o,a8.o]at h;exact h
 have cj:Hid (U.heap[w.heap.size]?=some (.cells #[.slice L s.length q] 23 (0,0))):=by show _=_;rw[aj.block _ (by omega)];exact q3.o
 have cl:Hid (U.heap[w.heap.size+1]?=some (.cells #[.int .i64 (z:Int)] 3 (0,0))):=by show _=_;rw[aj.block _ (by omega)];exact q8.o
 have ar:=z6 (aq.o.trans (aj.mono aq.o.size));rw[a8.o];clear aj q3 q8 c8 a8 cc;refine(MZ U).mono ?_;rintro e J ⟨rfl,bc,a9⟩;have c6:=bc.lt;have H4:=z6 bc;have r4:=z6 (r3.o.below a9);have ck:Hid (J.heap[w.heap.size]?=some (.cells #[.slice L s.length q] 23 (0,0))):=by show _=_;rw[a9.block _ (by omega)];exact cj.o
 have ap:Hid (J.heap[w.heap.size+1]?=some (.cells #[.int .i64 (z:Int)] 3 (0,0))):=by show _=_;rw[a9.block _ (by omega)];exact cl.o
 have ad:=z6 (ar.o.trans (a9.mono ar.o.size));have c8:J.cell? ⟨w.heap.size+1,0,none⟩=some (.int .i64 (z:Int)):=by rw[cell_of_row _ _ 0 _ _ (0,0) ap.o];rfl
 clear bc a9 r3 cj cl;obtain⟨b,hb⟩:=exN U.heap.size;rw[hb]at H4 c6;rw[hb];have b6:w.heap.size+1<J.heap.size:=by omega
 have bp:¬w.heap.size+1=J.heap.size:=by omega
 have bq:O.heap.size<b:=by omega
 have di:w.heap.size<J.heap.size:=by omega
 have ce:w.heap.size<=b:=by omega
 obtain⟨B3,ay⟩:=exH w.heap.size;obtain⟨B8,az⟩:=exH (w.heap.size+1);obtain⟨g9,b7⟩:=exH O.heap.size;rw[az.o]at ap c8 b6 bp;rw[b7.o]at r4 bq;rw[az.o,b7.o];clear hb db dd;go_wp2_with fail;refine(callsIn_wide.1 (Xg Fence.wide 6 trivial rfl E f.length dc _)).mono ?_;rintro e w5 ⟨rfl,a4⟩;have c7:w5.heap.size=J.heap.size+3:=by rw[a4];simp
 have a2:Below J.heap.size J w5:=by rw[a4];exact(((Below.refl _ J).alloc (AE _) _).alloc (by simp) _).alloc (by simp;omega) _
 obtain⟨B10,ax⟩:=exH J.heap.size;obtain⟨B11,a6⟩:=exH (J.heap.size+1);obtain⟨Bs,ai⟩:=exH (J.heap.size+2);have E0:Hid (Es w w5 B3 B8 g9 B10 B11 Bs b (.slice L s.length q) (.slice E f.length dc) s z (.slice none 0 0) z []):=by
  refine⟨?_,?_,r4.o.below a2,?_,?_,?_,H4.o.tch (S:=λ _=>False) (AD.of_below a2) (λ e=>e) (λ _ _ e=>e),ad.o.trans (a2.mono ad.o.size),?_,(λ k e=>by cases e),?_,?_⟩;rw[<-ay.o,a2.block _ (by omega)];exact ck.o;rw[a2.block _ b6];exact ap.o;rw[<-ax.o,a4,Below.heap_alloc _ _ _ (by simp only[World.size_alloc];omega),Below.heap_alloc _ _ _ (by simp)];exact heap_alloc_new J _;rw[<-a6.o,a4,Below.heap_alloc _ _ _ (by simp)];have:=heap_alloc_new (J.alloc (.cells #[.pointer (some ⟨b,0,none⟩)] 284)) (.cells #[.int .i64 (z:Int)] 3);simpa using this
  .rw[<-ai.o,a4];have:=heap_alloc_new ((J.alloc (.cells #[.pointer (some ⟨b,0,none⟩)] 284)).alloc (.cells #[.int .i64 (z:Int)] 3)) (.cells #[.slice E f.length dc] 23);simpa using this
  .exact ce
  .rw[<-a6.o];have:=ad.o.size;omega
  .rw[<-a6.o];omega
 have dm:B3<w5.heap.size:=by rw[<-ay.o];omega
 have cx:Bs<w5.heap.size:=by rw[<-ai.o,c7];omega
 have ae:=z6 E0.o.bel.size;rw[World.size_alloc,World.size_alloc,ai.o,ay.o,a6.o,ax.o];clear di ce a4 c7 a2 r4 ck ap c8 H4 ad aq ar b6 bp bq c6 aw bh a7 bg b2 bi ax a6 ai az b7 a5 ac;go_wp2_with fail;obtain⟨g,hg,c0⟩:=AAl HA.o HK.o.last HK.o.pos;have au:=z6 c0;have bu:w5.cell? ⟨Bs,0,none⟩=some (.slice E f.length dc):=by rw[cell_of_row _ _ 0 _ _ (0,0) E0.o.bx];rfl
 have bm:f=[]\/∃b ci,E=some ⟨b,ci,none⟩/\b<w.heap.size/\∀j,j<f.length->w5.cell? ⟨b,ci+j,none⟩=some (.int .i64 (f.getD j 0)):=by
  obtain⟨a,cap,e,_,_,_,h⟩:=HD.o;simp only[Value.slice.injEq]at e;obtain⟨rfl,_,rfl⟩:=e;by_cases h0:f=[]
  .exact .inl h0
  .rcases h with h|⟨b,o,rfl,hc⟩
   .exact .inl h
   .have d9:0<f.length:=by cases f with|nil=>exact absurd rfl h0|cons x r=>simp
    have c4:=zb0 w ⟨b,o+0,none⟩ (hc 0 d9);exact .inr ⟨b,o,rfl,c4,λ j hj=>by rw[E0.o.bel.cell (p:=⟨b,o+j,none⟩) c4];exact hc j hj⟩
 have bb:=Xh (MG s) g Fence.wide 5 trivial rfl (by omega) Bs w.heap.size E dc f (by omega) w5 cx ae.o bu bm hg;clear bu bm hg c0;refine wpIn_wide.1 (wpIn_rangeFunc_ownG (F:=Fence.wide) (n:=6) rfl (by omega) (gf:=253) (lb:=#[.pointer (some ⟨Bs,0,none⟩)]) rfl trivial (enters_of func253 (by kernel_rfl) rfl)
  bb KB.t (KB.b ae.o) (Below.refl _ _) (λ _=>rfl)
  (λ pre W=>∃rv,Es w W B3 B8 g9 B10 B11 Bs b (.slice L s.length q) (.slice E f.length dc) s z rv (en (nn s) s.length z (EA pre)).1 (en (nn s) s.length z (EA pre)).2)
  (λ _ _ _=>False)
  (λ pre A A' e1 hs hg hr=>by obtain⟨rv,I⟩:=hs;exact⟨rv,I.own hg (λ r e=>⟨Aw ae.o (hr r e).1,(hr r e).2⟩)⟩)
  (λ _ _ _ _ _ hs _ _=>hs)
  ⟨_,E0.o⟩
  (λ x=>{ tmps:=#[Value.slice L s.length q,Value.int .i64 (lg:Int),Value.slice E f.length dc,Value.pointer (some ⟨B3,0,none⟩),undef,undef,Value.slice none 0 0,Value.int .i64 0,Value.pointer (some ⟨B8,0,none⟩),Value.pointer (some ⟨g9,0,none⟩),Value.pointer (some ⟨B10,0,none⟩),Value.pointer (some ⟨B11,0,none⟩),undef,Value.int .i64 x.2.1,undef,Value.slice L s.length q,Value.int .i64 (lg:Int),Value.bool true,Value.bool false,Value.slice E f.length dc,Value.int .i64 (f.length:Int),Value.bool false,Value.bool false,Value.slice L s.length q,Value.slice E f.length dc,Value.bool true,Value.bool false,Value.bool false,Value.int .i64 (lg:Int),Value.int .i64 (z:Int),Value.slice L s.length q,Value.int .i64 (z:Int),Value.agg FS.toArray,Value.pointer (some ⟨b,0,none⟩),Value.int .i64 (z:Int),Value.slice E f.length dc,Value.func (.func 253) #[] #[.pointer (some ⟨Bs,0,none⟩)],Value.int .i64 (x.1:Int),Value.int .i64 x.2.1,undef,undef,undef,undef,undef,undef,undef,undef,undef,undef,undef,undef,undef,undef,undef,undef,undef,undef,undef,undef,undef,undef,undef,undef,undef,undef,undef,undef,undef,undef,undef,undef,undef,undef],defers:=[] }) ?assign ?body ?done ?stop)
 case assign=>
  intro l x W K hK;simp only[MG]
  gi_wp2
  exact hK
 case stop=>rintro D c pre W _ _ h _;exact h.elim
 case done=>
  rintro D ys W hD rfl ⟨rv,I⟩ hK;rw[au.o]at I;obtain⟨σ,hσ⟩:=exH ((en (nn s) s.length z f).1);obtain⟨bs,a0⟩:=exH ((en (nn s) s.length z f).2);rw[hσ.o,a0.o]at I;have ao:=L1 (z:=z) (by omega) (nn s) s.length f;rw[hσ.o]at ao;have a3:=OO (nn s) s.length z f;rw[a0.o]at a3;have ag:Hid (bs.length<=655360):=by show _<=_;omega
  have c8:W.cell? ⟨B8,0,none⟩=some (.int .i64 (z:Int)):=by rw[cell_of_row _ _ 0 _ _ (0,0) I.b8];rfl
  have ct:W.cell? ⟨B10,0,none⟩=some (.pointer (some ⟨b,0,none⟩)):=by rw[cell_of_row _ _ 0 _ _ (0,0) I.b10];rfl
  have c11:W.cell? ⟨B11,0,none⟩=some (.int .i64 (σ:Int)):=by rw[cell_of_row _ _ 0 _ _ (0,0) I.b11];rfl
  obtain⟨τ,hτ⟩:=exH (σ-z);have dj:(σ:Int)-(z:Int)=(τ:Int):=by rw[<-hτ.o];omega
  have e0:τ<z:=by rw[<-hτ.o];omega
  have HE:=z6 I;have af:=z6 hK;have cn:=z6 hD;have cq:Hid (Cl (nn s) s.length z lg f=bs++Aa (τ:Int) lg):=by show _=_;unfold Cl;rw[hσ.o,a0.o,dj]
  have dz:σ<=1024:=by omega
  clear I hK hD a3 hσ a0 bb au;go_wp2_with fail;have e2:((2:Int) ^ lg)=(z:Int):=by rw[<-hz.o];push_cast;rfl
  refine(IQ b rv lg (τ:Int) bs W HE.o.wr (by have:=ag.o;omega) (by omega) (by omega) (by rw[e2];omega)).mono ?_;rintro e w6 ⟨rfl,dl,h6⟩;have E6:=z6 (HE.o.put h6);have K6:Hid (w6.heap[D]?=some (.deferred (some []))):=by refine EY h6.tch af.o ?_;rintro(e|e);have:=HE.o.wr.blk;rw[<-e,af.o]at this;simp at this;obtain⟨c,hc⟩:=HE.o.rvb e;rw[af.o]at hc;simp at hc
  have cv:w6.cell? ⟨B10,0,none⟩=some (.pointer (some ⟨b,0,none⟩)):=by rw[cell_of_row _ _ 0 _ _ (0,0) E6.o.b10];rfl
  clear h6 HE af c8 ct c11 e2;go_wp2_with fail;refine(AIG b dl _ w6 E6.o.wr (by rw[zc0,Bc];have:=ag.o;omega)).mono ?_;rintro e w7 ⟨v7,rfl,am,b5,bw⟩;rw[<-cq.o]at am;have O7:=z6 am;have B7:=z6 (E6.o.bel.trans (b5.mono E6.o.bel.size));have F7:Hid (∀k,v7.ownBlock=some k->w.heap.size<=k):=λ k hk=>Aw E6.o.bel.size (bw k hk);have K7:Hid (w7.heap[D]?=some (.deferred (some []))):=by show _=_;rw[b5.block D (za0.1 K6.o).1];exact K6.o
  obtain⟨va,vc,dh⟩:∃a c,v7=.slice a (AJ (Cl (nn s) s.length z lg f++[1])).length c:=by obtain⟨a,c,e,_⟩:=am.rd;exact⟨a,c,e⟩
  subst dh;obtain⟨PL,bo⟩:∃PL:Nat,(AJ (Cl (nn s) s.length z lg f++[1])).length=PL:=⟨_,rfl⟩
  have bn:=z6 bo;clear bo;rw[bn.o]at O7 F7;rw[bn.o];clear am b5 bw E6 K6 cv;go_wp2_with fail;refine⟨by simp,.inl ⟨_,_,rfl,run_takeDeferred K7.o,?_⟩⟩;have ca:AD (λ k=>k=D) w7 (w7.putObj D (.deferred none)):=(AD.refl _ w7).grown (grownBy_putObj' w7 D (.deferred none)) (λ k _ e=>by cases e;rfl);refine⟨_,results_tmp2 rfl _ _ _,_,rfl,?_,F7.o,?_⟩;exact B7.o.trans (ca.below B7.o.size (λ k e=>by rw[e];exact Aw ae.o cn.o));refine O7.o.tch ca (λ j hj e=>?_);obtain⟨c,hc⟩:=Lb (show w7.ownsRow 0 5 1 _ _ _ from O7.o) hj;rw[e,K7.o]at hc;simp at hc
 case body=>
  rintro l pre x W ⟨rv,I⟩ d8;have cg:=x.2.2.1;have aa:=x.2.2.2.1;have bd:=x.2.2.2.2;obtain⟨k,an⟩:=Int.eq_ofNat_of_zero_le cg;rw[an,Int.toNat_natCast]at aa bd;have cr:=z6 an;obtain⟨xi,cf⟩:∃xi:Nat,x.1=xi:=⟨_,rfl⟩
  simp only[an,cf];clear an cf cg;obtain⟨σ,hσ⟩:=exH ((en (nn s) s.length z (EA pre)).1);obtain⟨bs,a0⟩:=exH ((en (nn s) s.length z (EA pre)).2);rw[hσ.o,a0.o]at I;have ao:=L1 (z:=z) (by omega) (nn s) s.length (EA pre);rw[hσ.o]at ao;have a3:=OO (nn s) s.length z (EA pre);rw[a0.o]at a3;have ag:Hid (bs.length<=655360):=by show _<=_;simp only[EA,List.length_reverse,zu0]at a3;omega
  have ak:=HK.o.le k;have d4:=aa;obtain⟨Z,b9⟩:=exH (nn s k);rw[b9.o,hz.o]at ak;have ba:1<=Z/\Z<=z:=by rw[ak.1]at bd;omega
  obtain⟨B,so,de,c9⟩:∃B so,L=some ⟨B,so,none⟩/\∀i,i<s.length->w.cell? ⟨B,so+i,none⟩=some (.int .i64 (s.getD i 0)):=by
   obtain⟨a,cap,e,_,_,_,h⟩:=HR.o;simp only[Value.slice.injEq]at e;obtain⟨rfl,_,rfl⟩:=e;rcases h with h|⟨b,o,rfl,hc⟩
   .have:=HK.o.pos;rw[h]at this;simp at this
   .exact⟨b,o,rfl,hc⟩
  subst de;have av:Hid (∀W',Below w.heap.size w W'->W'.cell? ⟨B,so+k,none⟩=some (.int .i64 (Z:Int))):=λ W' cz=>by have h0:=c9 k aa;rw[cz.cell (p:=⟨B,so+k,none⟩) (zb0 w ⟨B,so+k,none⟩ h0),h0,ak.1]
  obtain⟨n,hn⟩:=exH (nb σ Z);have be:σ<1024:=by omega
  have al:n<=10:=by rw[<-hn.o];exact UH _ _
  have c5:=UI ba.1 be ao.1 ba.2;rw[hn.o]at c5;obtain⟨X,hX⟩:=exH (σ / 2 ^ n);rw[hX.o]at c5;obtain⟨T,hT⟩:∃T:Nat,Hid (2 ^ n=T):=⟨_,rfl⟩
  have cy:0<T/\T<=1024:=by rw[<-hT.o];exact⟨Nat.pow_pos (by decide),Nat.pow_le_pow_right (by decide) al⟩
  obtain⟨r,hr⟩:=exH (σ % T);have dw:r<T:=by rw[<-hr.o];exact Nat.mod_lt _ cy.1
  obtain⟨A,hA⟩:=exH (X-Z);obtain⟨P,hP⟩:=exH (pl (nn s) s.length z z (cu (nn s) k+A));have dq:P<z:=by rw[<-hP.o];exact Uf _ _ _ _ _ (by omega)
  have d1:cu (nn s) k+A<512:=by have h1:=Fc (nn s) (show k+1<=s.length from aa);have h2:=HK.o.fok.sum;rw[hz.o]at h2;simp only[cu]at h1;rw[b9.o]at h1;rw[<-hA.o];omega
  have co:Hid ((en (nn s) s.length z (EA (pre++[x])))=(z+P,bs++Aa (r:Int) n)):=by show _=_;rw[AGu,cr.o];simp only[en,Gj,Int.toNat_natCast];rw[hσ.o,a0.o,b9.o,hn.o,hX.o,hA.o,hP.o,<-hr.o,<-hT.o,Ni]
  have HE:=z6 I;have c11:W.cell? ⟨B11,0,none⟩=some (.int .i64 (σ:Int)):=by rw[cell_of_row _ _ 0 _ _ (0,0) I.b11];rfl
  have c3:W.cell? ⟨B3,0,none⟩=some (.slice (some ⟨B,so,none⟩) s.length q):=by rw[cell_of_row _ _ 0 _ _ (0,0) I.b3];rfl
  have cs:=av.o W I.bel;have d2:(0:Int)<=(k:Int):=by omega
  have d3:(k:Int)<(s.length:Int):=by omega
  clear I a3 ak c9 aa bd bb au d8;have hd:1<=6-1-1:=by omega
  have ds:prog.follows .mixedOrders=true:=by kernel_rfl
  gi_wp2_with fail
  refine wpIn_mono (Q:=λ e a' W'=>e=.normal/\a'={ tmps:=#[Value.slice (some ⟨B,so,none⟩) s.length q,Value.int .i64 (lg:Int),Value.slice E f.length dc,Value.pointer (some ⟨B3,0,none⟩),undef,undef,Value.slice none 0 0,Value.int .i64 0,Value.pointer (some ⟨B8,0,none⟩),Value.pointer (some ⟨g9,0,none⟩),Value.pointer (some ⟨B10,0,none⟩),Value.pointer (some ⟨B11,0,none⟩),undef,Value.int .i64 (k:Int),Value.int .i64 (n:Int),Value.slice (some ⟨B,so,none⟩) s.length q,Value.int .i64 (lg:Int),Value.bool true,Value.bool false,Value.slice E f.length dc,Value.int .i64 (f.length:Int),Value.bool false,Value.bool false,Value.slice (some ⟨B,so,none⟩) s.length q,Value.slice E f.length dc,Value.bool true,Value.bool false,Value.bool false,Value.int .i64 (lg:Int),Value.int .i64 (z:Int),Value.slice (some ⟨B,so,none⟩) s.length q,Value.int .i64 (z:Int),Value.agg FS.toArray,Value.pointer (some ⟨b,0,none⟩),Value.int .i64 (z:Int),Value.slice E f.length dc,Value.func (.func 253) #[] #[.pointer (some ⟨Bs,0,none⟩)],Value.int .i64 (xi:Int),Value.int .i64 (k:Int),Value.int .i64 (σ:Int),Value.slice (some ⟨B,so,none⟩) s.length q,Value.int .i64 (k:Int),Value.pointer (some ⟨B,so+k,none⟩),Value.int .i64 (Z:Int),Value.int .i64 (n:Int),undef,undef,undef,undef,undef,undef,undef,undef,undef,undef,undef,undef,undef,undef,undef,undef,undef,undef,undef,undef,undef,undef,undef,undef,undef,undef,undef,undef],defers:=[] }/\Below W.heap.size W W') ?m1 ?m2
  case m1=>
   gi_region_with_o (refine⟨trivial,?_⟩;gi_at_call 231;refine(CallsIn.inRound l (callsIn_wide.2 (Xw σ Z _ ba.1 (by omega) be))).mono ?_;rintro e w' ⟨rfl,rfl⟩;rw[hn.o])
   all_goals exact⟨rfl,rfl,by repeat(first|exact Below.refl _ _|apply Below.drew)⟩
  rintro e a' W' ⟨rfl,rfl,b4⟩;have E1:=z6 (HE.o.blw b4);have TB:=z6 b4;have bk:W'.cell? ⟨B11,0,none⟩=some (.int .i64 (σ:Int)):=by rw[cell_of_row _ _ 0 _ _ (0,0) E1.o.b11];rfl
  have bj:W'.cell? ⟨B10,0,none⟩=some (.pointer (some ⟨b,0,none⟩)):=by rw[cell_of_row _ _ 0 _ _ (0,0) E1.o.b10];rfl
  clear b4 c11 c3 cs
  gi_wp2_with fail
  refine wpIn_mono (Q:=λ e a' Y=>Hid (e=.normal/\a'={ tmps:=#[Value.slice (some ⟨B,so,none⟩) s.length q,Value.int .i64 (lg:Int),Value.slice E f.length dc,Value.pointer (some ⟨B3,0,none⟩),undef,undef,Value.slice none 0 0,Value.int .i64 0,Value.pointer (some ⟨B8,0,none⟩),Value.pointer (some ⟨g9,0,none⟩),Value.pointer (some ⟨B10,0,none⟩),Value.pointer (some ⟨B11,0,none⟩),undef,Value.int .i64 (k:Int),Value.int .i64 (n:Int),Value.slice (some ⟨B,so,none⟩) s.length q,Value.int .i64 (lg:Int),Value.bool true,Value.bool false,Value.slice E f.length dc,Value.int .i64 (f.length:Int),Value.bool false,Value.bool false,Value.slice (some ⟨B,so,none⟩) s.length q,Value.slice E f.length dc,Value.bool true,Value.bool false,Value.bool false,Value.int .i64 (lg:Int),Value.int .i64 (z:Int),Value.slice (some ⟨B,so,none⟩) s.length q,Value.int .i64 (z:Int),Value.agg FS.toArray,Value.pointer (some ⟨b,0,none⟩),Value.int .i64 (z:Int),Value.slice E f.length dc,Value.func (.func 253) #[] #[.pointer (some ⟨Bs,0,none⟩)],Value.int .i64 (xi:Int),Value.int .i64 (k:Int),Value.int .i64 (σ:Int),Value.slice (some ⟨B,so,none⟩) s.length q,Value.int .i64 (k:Int),Value.pointer (some ⟨B,so+k,none⟩),Value.int .i64 (Z:Int),Value.int .i64 (n:Int),Value.pointer (some ⟨b,0,none⟩),Value.int .i64 (n:Int),Value.int .i64 (σ:Int),Value.int .i64 (n:Int),Value.int .i64 (T:Int),Value.int .i64 ((T:Int)-1),Value.int .i64 (r:Int),Value.int .i64 0,undef,undef,undef,undef,undef,undef,undef,undef,undef,undef,undef,undef,undef,undef,undef,undef,undef,undef,undef,undef],defers:=[] }/\∃ab,Es w Y B3 B8 g9 B10 B11 Bs b (.slice (some ⟨B,so,none⟩) s.length q) (.slice E f.length dc) s z ab σ (bs++Aa (r:Int) n)/\AD (λ k=>k=b\/rv.ownBlock=some k) W Y)) ?m3 ?m4
  case m3=>
   (have e2:((2:Int) ^ n)=(T:Int):=by rw[<-hT.o];push_cast;rfl);(have h1:IntKind.i64.wrap (2 ^ n)=(T:Int):=by rw[e2];exact Bp _ (by omega) (by omega));have h2:IntKind.i64.wrap ((T:Int)-1)=(T:Int)-1:=Bp _ (by omega) (by omega);(have h3:Go.bits BinOp.and IntKind.i64 (σ:Int) ((T:Int)-1)=(r:Int):=by rw[XX σ n T hT.o be al,hr.o]);have hE:=E1.o.blw (W':=W'.drew) ((Below.refl _ _).drew);(have d0:bs.length<=1125899906841900:=by have:=ag.o;omega);have da:=IQ b rv n (r:Int) bs W'.drew hE.wr d0 (by clear h1 h2 h3;omega) (by clear h1 h2 h3;omega) (by clear h1 h2 h3;rw[e2];omega)
   refine AEu l _ _ _ _ _ _ _ _ _ _ _ undef undef _ _ undef _ _ _ _ _ _ _ _ _ _ _ _ _ _ _ _ _ _ _ _ _ _ _ _ _ _ _ _ _ _ _ _ _ _ _ _ _ _ _ _ _ _ _ _ _ _ _ _ _ _ _ _ _ _ _ _ _ _ B10 B11 b n σ T r W' _ (λ⟨_,_,h⟩=>by cases h.o.1) (λ c a w h=>by cases h.o.1) al h1 h2 h3 bj bk (da.mono ?_);rintro e Y ⟨rfl,ab,h4⟩;have b0:=hE.put h4;refine⟨rfl,⟨?_,?_⟩,(show _/\_/\_ from⟨rfl,rfl,ab,b0,?_⟩)⟩;rw[cell_of_row _ _ 0 _ _ (0,0) b0.b10];rfl;rw[cell_of_row _ _ 0 _ _ (0,0) b0.b11];rfl;exact((AD.of_below (S:=λ k=>k=b\/rv.ownBlock=some k) TB.o).drew).trans h4.tch (λ _ _ e=>e)
  intro e a' Y HH;obtain⟨rfl,rfl,ab,h2,t2⟩:=HH.o;clear HH;have E2:=z6 h2;have TT:=z6 t2;clear h2 t2 bk bj E1 TB
  gi_wp2_with fail
  refine wpIn_mono (Q:=λ e a' U=>Hid (e=.normal/\KeepsFrom w5.heap.size W U/\KB w.heap.size Bs W U/\∃bf,Es w U B3 B8 g9 B10 B11 Bs b (.slice (some ⟨B,so,none⟩) s.length q) (.slice E f.length dc) s z bf (en (nn s) s.length z (EA (pre++[x]))).1 (en (nn s) s.length z (EA (pre++[x]))).2)) ?m5 ?m6;case m5=>
   (have h1:(σ:Int) / 2 ^ n=(X:Int):=by rw[<-hX.o];push_cast;rfl);(have h3:(X:Int)-(Z:Int)=(A:Int):=by rw[<-hA.o];omega);(have h4:IntKind.i64.wrap ((X:Int)-(Z:Int))=(A:Int):=by rw[h3];exact Bp _ (by omega) (by omega));(have h5:IntKind.i64.wrap ((z:Int)+(P:Int))=((z+P:Nat):Int):=by rw[Bp _ (by omega) (by omega)];push_cast;rfl);have bz:=AAA g9 (nn s) s.length z k A Y.drew (E2.o.sp.below ((Below.refl _ _).drew)) d4 d7 d1;rw[hP.o]at bz
   refine AEv l _ _ _ _ undef _ _ _ _ undef undef _ undef _ undef undef _ _ _ _ _ _ _ _ _ _ _ _ _ _ _ _ _ _ _ _ _ _ _ _ _ _ _ _ _ _ _ _ _ _ _ _ _ _ _ _ _ _ _ _ _ _ _ _ _ _ _ _ _ _ _ _ _ _ B3 B8 g9 B11 B so s.length q z k n σ Z X A P (z+P) Y _ (λ⟨_,_,h⟩=>by cases h.o.1) (λ c a w h=>by cases h.o.1) al d2 d3 h1 h4 h5 ⟨?c8,?c3,av.o Y E2.o.bel⟩ ?c11 (bz.mono ?_) (frozen_of_row _ _ 0 _ _ E2.o.b11) (λ j=>?fin);(case c8=>rw[cell_of_row _ _ 0 _ _ (0,0) E2.o.b8];rfl);(case c3=>rw[cell_of_row _ _ 0 _ _ (0,0) E2.o.b3];rfl);(case c11=>rw[cell_of_row _ _ 0 _ _ (0,0) E2.o.b11];rfl);case fin=>
    (have br:Below Y.heap.size Y (Y.drewN j):=Below.of_drewN _ _ _;have hE:=(E2.o.blw br).state (z+P);have ht:AD (λ k=>(k=b\/rv.ownBlock=some k)\/k=B11) W ((Y.drewN j).setCell ⟨B11,0,none⟩ (.int .i64 ((z+P:Nat):Int))):=by have t1:=TT.o.mono (S':=λ k=>(k=b\/rv.ownBlock=some k)\/k=B11) (λ _ _ e=>.inl e);have t2:=t1.trans (AD.of_below (S:=λ k=>(k=b\/rv.ownBlock=some k)\/k=B11) br) (λ _ _ e=>e);exact AD.setCell t2 (p:=⟨B11,0,none⟩) (λ _=>.inr rfl) _);obtain⟨k1,k2⟩:=ABj w5.heap.size HE.o hE ht;refine⟨⟨?_,?_,av.o _ hE.bel⟩,(show _/\_/\_/\_ from⟨rfl,k1,k2,ab,?_⟩)⟩;rw[cell_of_row _ _ 0 _ _ (0,0) hE.b8];rfl;rw[cell_of_row _ _ 0 _ _ (0,0) hE.b3];rfl;rw[co.o];exact hE
   .rintro e W4 ⟨rfl,j,rfl⟩;exact⟨rfl,j,rfl⟩
  intro e a' U HH;obtain⟨rfl,k1,k2,bf,h3⟩:=HH.o;exact⟨k1,k2,bf,h3⟩
end
section
open Go.RowKit Pl
def pk(cs:List Int):Nat->List Int
 | 0=>[]
 | k+1=>pk cs k++AQ (cs.getD k 0)
def Ue(cs k):(pk cs k).length<=5*k:=by
 induction k with
 | zero=>simp[pk]
 | succ k f=>simp only[pk,zc0];have:=(F0 (cs.getD k 0)).2;omega
def EQ(s:List Int)(log:Int):Int×List Int:=if A0 s log=false then(4,[])else(0,[log]++pk ((s.length:Int)::s) (s.length+1))
def N0{s lg}(h:Ca s lg)(i):0<=((s.length:Int)::s).getD i 0/\((s.length:Int)::s).getD i 0<=4294967295:=by
 cases i with
 | zero=>have:=h.len;simp;omega
 | succ i=>
  have:=h.le i;have f:=h.z
  grind
def ADq(w:World)(a):AF .u8 5 (w.alloc (.cells #[.int .u8 a] 5)) (.slice (some ⟨w.heap.size,0,none⟩) 1 1) [a]:=
 World.ownsRow_lit w #[.int .u8 a] 1 (AI _) (by unfold maxLen;omega) rfl
def ADr(w:World)(a):AF .i64 3 (w.alloc (.cells #[.int .i64 a] 3)) (.slice (some ⟨w.heap.size,0,none⟩) 1 1) [a]:=
 World.ownsRow_lit w #[.int .i64 a] 1 (AI _) (by unfold maxLen;omega) rfl
def AEY(v s B w)(h:Rd .i64 w v s):
 Calls prog 199 #[v,.int .i64 B] w λ e w'=>GW (EQ s B) w e w':=by
 have HR:=z6 h;obtain⟨O,T,rfl,_,_,_,_⟩:=h;have ac:Hid (Calls prog 226 #[.slice O s.length T,.int .i64 B] w λ e w'=>e=.returned (.bool (A0 s B))/\w'=w):=He _ s B w HR.o
 go_enter func199,ntmps199
 go_wp2_with fail;refine ac.o.mono ?_;clear ac;rintro e f ⟨rfl,rfl⟩;cases hm:A0 s B with
 | false=>
  have HE:Hid (EQ s B=(4,[])):=by show _=_;unfold EQ;rw[if_pos hm]
  clear hm;go_wp2_with fail;go_ret2;rw[HE.o];exact GW.bad (Below.refl _ _)
 | true=>
  obtain⟨A,rfl,L⟩:=Ca.of hm;have HS:=z6 L;have h5:=L.lo;have h9:=L.hi;have hl:=L.len;obtain⟨q,W⟩:=exH ((s.length:Int)::s);have af:q.length=s.length+1:=by rw[<-W.o];rfl
  obtain⟨N,hN⟩:=exH (s.length+1);have a2:Hid (q.length=N):=by show _=_;rw[af,hN.o]
  have ao:1<=N/\N<=65:=by rw[<-hN.o];omega
  have HE:Hid (EQ s A=(0,[(A:Int)]++pk q N)):=by show _=_;unfold EQ;rw[if_neg (by rw[hm];simp),W.o,hN.o]
  have ak:Hid (∀i,0<=q.getD i 0/\q.getD i 0<=4294967295):=λ i=>by rw[<-W.o];exact N0 HS.o i
  obtain⟨I,X⟩:=exH (f.alloc (.cells #[.int .u8 (A:Int)] 5));obtain⟨K,Y⟩:=exH (I.alloc (.cells #[.int .i64 (s.length:Int)] 3));obtain⟨wc,a9⟩:=exH (K.alloc (.cells #[.slice (some ⟨f.heap.size+1,0,none⟩) 1 1,.slice O s.length T] 23));have sa:I.heap.size=f.heap.size+1:=by rw[<-X.o];simp
  have sb:K.heap.size=I.heap.size+1:=by rw[<-Y.o];simp
  have a3:Below f.heap.size f I:=by rw[<-X.o];exact(Below.refl _ _).alloc (AE _) _
  have a4:Below I.heap.size I K:=by rw[<-Y.o];exact(Below.refl _ _).alloc (AE _) _
  have a6:Below K.heap.size K wc:=by rw[<-a9.o];exact(Below.refl _ _).alloc (AE _) _
  have a5:=a4.trans (a6.mono a4.size);have U:=z6 (a3.trans (a5.mono a3.size));have OA:Hid (AF .u8 5 wc (.slice (some ⟨f.heap.size,0,none⟩) 1 1) [(A:Int)]):=by have:=ADq f (A:Int);rw[X.o]at this;exact this.below a5
  have OB:Hid (AF .i64 3 wc (.slice (some ⟨f.heap.size+1,0,none⟩) 1 1) [(s.length:Int)]):=by have:=ADr I (s.length:Int);rw[Y.o,sa]at this;exact this.below a6
  have a8:wc.heap[f.heap.size+1+1]?=some (.cells #[.slice (some ⟨f.heap.size+1,0,none⟩) 1 1,.slice O s.length T] 23 (0,0)):=by rw[<-a9.o];have:=heap_alloc_new K (.cells #[.slice (some ⟨f.heap.size+1,0,none⟩) 1 1,.slice O s.length T] 23);rw[sb,sa]at this;exact this
  have d0:wc.cell? ⟨f.heap.size+1+1,0,none⟩=some (.slice (some ⟨f.heap.size+1,0,none⟩) 1 1):=by rw[cell_of_row _ _ 0 _ _ (0,0) a8];rfl
  have d1:wc.cell? ⟨f.heap.size+1+1,1,none⟩=some (.slice O s.length T):=by rw[cell_of_row _ _ 1 _ _ (0,0) a8];rfl
  have ab:Hid (Calls prog 227 #[.slice (some ⟨f.heap.size+1+1,0,none⟩) 2 2] wc λ e w'=>∃E,e=.returned E/\AF .i64 3 w' E q/\AY wc w' (.slice none 0 0) E):=by have:=ZI (f.heap.size+1+1) _ _ [(s.length:Int)] s wc OB.o.rd (HR.o.below U.o) (by simp) (by simp) (by omega) d0 d1;rw[List.singleton_append,W.o]at this;exact this
  clear hm L a3 a4 a6 a5 OB a8 d0 d1 af;go_wp2_with fail;rw[X.o,Y.o,a9.o];refine ab.o.mono ?_;clear ab;rintro e Z ⟨cv,rfl,ai,ag⟩;obtain⟨cb,cc,rfl,_,_,_,q4,_⟩:=ai.shape (by rw[a2.o];omega);have HQ:Hid (∀i,i<N->Z.cell? ⟨cb,i,none⟩=some (.int .i64 (q.getD i 0))):=λ i hi=>q4 i (by rw[a2.o];exact hi);have a1:=ag.below.1;have a0:=z6 (U.o.trans (a1.mono U.o.size));have ae:=z6 (OA.o.below a1);rw[a2.o];clear ai ag q4 a1 OA U sa sb;go_wp2_with fail
  go_loopw [6,25] (λ r i wr=>∃k:Nat,k<=N/\i=.int .i64 k/\Hid (AF .u8 5 wr r ([(A:Int)]++pk q k))/\Hid (∀j,r.ownBlock=some j->f.heap.size<=j)/\Hid (Below Z.heap.size Z wr)) (λ _ i _=>N-(intOf i).toNat)
  case atStart=>exact⟨0,AI _,rfl,by show AF _ _ _ _ _;simp only[pk,List.append_nil];exact ae.o,λ j e=>by simp only[Value.ownBlock,Option.some.injEq]at e;omega,Below.refl _ _⟩
  case round=>
   clear ae;obtain⟨k,hk,rfl,HO,HF,J⟩:=hrel;by_cases am:k<N
   .obtain⟨x,hx⟩:=exH (q.getD k 0);have cx:wr.cell? ⟨cb,k,none⟩=some (.int .i64 x):=by have h0:=HQ.o k am;rw[J.o.cell (p:=⟨cb,k,none⟩) (zb0 Z ⟨cb,k,none⟩ h0),h0,hx.o]
    (have aa:=ak.o k;rw[hx.o]at aa;have an:=Ue q k;have ad:Hid (Calls prog 123 #[u6,.int .i64 x] wr λ e w'=>∃E,e=.returned (.tuple #[E,.int .i64 0])/\AF .u8 5 w' E ([(A:Int)]++pk q (k+1))/\AY wr w' (.slice none 0 0) E):=by have:=Uk u6 ([(A:Int)]++pk q k) x wr HO.o.rd (by simp;omega) aa.1 aa.2;simp only[pk];rw[hx.o,<-zr0];exact this);(clear an;go_wp2_with fail;refine ad.o.mono ?_;clear ad;rintro e w5 ⟨v5,rfl,aj,a7⟩;have al:=z6 aj;have B5:=z6 (J.o.trans (a7.below.1.mono J.o.size));have F5:Hid (∀j,v5.ownBlock=some j->f.heap.size<=j):=λ j e=>by have h1:=a7.below.2 j e;have h2:=J.o.size;have h3:=a0.o.size;omega);clear aj a7 HO HF J cx;go_wp2_with fail
    go_roundw
    (case rel=>exact⟨k+1,by omega,by go_num,al,F5,B5⟩);case measure=>simp[intOf];omega
   .obtain rfl:k=N:=by omega
    have BF:=z6 (a0.o.trans (J.o.mono a0.o.size));go_wp2_with fail;go_ret2;rw[HE.o];exact⟨_,rfl,BF.o,HF.o,HO.o⟩
def Ud(cs f:List Int):∀n k,k<=n->∃more,pk cs n++f=pk cs k++more/\(k<n->∃m2,more=AQ (cs.getD k 0)++m2)
 | 0,k,h=>by simp_all
 | n+1,k,h=>by by_cases e:k=n+1;simp_all;by_cases q:k=n;subst q;exact⟨AQ (cs.getD k 0)++f,by simp only[pk,zr0],λ _=>⟨f,rfl⟩⟩;obtain⟨more,r,A⟩:=Ud cs (AQ (cs.getD n 0)++f) n k (by omega);exact⟨more,by rw[<-r];simp only[pk,zr0],λ _=>A (by omega)⟩
def WO(cs f:List Int)(n:Nat)(q:∀i,0<=cs.getD i 0/\cs.getD i 0<=4294967295)(B:n<=cs.length):∀k,k<=n->CI (pk cs n++f) k=some (cs.take k,(pk cs k).length)
 | 0,_=>by simp[CI,pk]
 | k+1,hk=>by
  have E:=WO cs f n q B k (by omega);obtain⟨K,I,r⟩:=Ud cs f n k (by omega);obtain⟨m2,J⟩:=r (by omega);have A:(pk cs n++f).drop (pk cs k).length=AQ (cs.getD k 0)++m2:=by grind
  simp only[CI,E,A];rw[PK _ _ (q k).1 (q k).2];simp only[pk,zc0];rw[List.take_succ_eq_append_getElem (by omega),AP,z9 (by omega)];rfl
def Uc(x:Int)(s:List Int):∀k,pk (x::s) (k+1)=AQ x++pk s k
 | 0=>by simp[pk]
 | k+1=>by rw[show pk (x::s) (k+1+1)=pk (x::s) (k+1)++AQ ((x::s).getD (k+1) 0)from rfl,Uc x s k];simp only[pk,List.getD_cons_succ,zr0]
def AAh{s}{lg:Nat}(r:A0 s lg=true)(f):
 DH ([(lg:Int)]++pk ((s.length:Int)::s) (s.length+1)++f)=(0,s,(lg:Int),(([(lg:Int)]++pk ((s.length:Int)::s) (s.length+1)).length:Int)):=by
 obtain⟨O,e,q⟩:=Ca.of r;obtain rfl:lg=O:=by omega
 have T:=q.lo;have U:=q.hi;have W:=q.len;have B:∀i,0<=s.getD i 0/\s.getD i 0<=4294967295:=λ i=>N0 q (i+1);rw[Uc];have E:([(lg:Int)]++(AQ (s.length:Int)++pk s s.length)++f).drop 1=AQ (s.length:Int)++(pk s s.length++f):=by simp
 have A:([(lg:Int)]++(AQ (s.length:Int)++pk s s.length)++f).length≠0:=by simp
 have J:([(lg:Int)]++(AQ (s.length:Int)++pk s s.length)++f).getD 0 0=(lg:Int):=rfl;have K:BJ (([(lg:Int)]++(AQ (s.length:Int)++pk s s.length)++f).drop 1)=some ((s.length:Int),(AQ (s.length:Int)).length):=by rw[E];exact PK _ _ (by omega) (by omega)
 have I:([(lg:Int)]++(AQ (s.length:Int)++pk s s.length)++f).drop (1+(AQ (s.length:Int)).length)=pk s s.length++f:=by grind
 have L:CI (([(lg:Int)]++(AQ (s.length:Int)++pk s s.length)++f).drop (1+(AQ (s.length:Int)).length)) ((s.length:Int)).toNat=some (s,(pk s s.length).length):=by rw[I,Int.toNat_natCast,WO s f s.length B (AE _) s.length (AE _),List.take_length]
 rw[Og A K (by omega) L,J,if_pos r]
 grind
