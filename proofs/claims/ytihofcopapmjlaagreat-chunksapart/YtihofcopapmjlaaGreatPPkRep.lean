import Derived.Test.YtihofcopapmjlaaGreatPClone
import Derived.Lib.MakeNoZero
set_option maxRecDepth 100000
set_option linter.all false
set_option maxHeartbeats 8000000
namespace Go.Proofs.YtihofcopapmjlaaGreat
open Go.Proofs.Tryz
open Go.RowKit Pl
def AC6(n:Nat)(E:n<=65536)(w):
 Calls prog 207 #[.int .u64 1,.int .u64 (n:Int)] w λ e w'=>e=.returned (.tuple #[.int .u64 0,.int .u64 (n:Int)])/\w'=w:=by
 have f:bits .and .u64 (n:Int) 4294967295=(n:Int):=by have h:=bits_and_u64_nat n 4294967295 (by omega) (by omega);have e:=Nat.and_two_pow_sub_one_eq_mod n 32;rw[e,Nat.mod_eq_of_lt (by omega)]at h;exact h
 have q:bits .and .u64 1 4294967295=1:=by decide +kernel
 have r:(n:Int) / 4294967296=0:=by omega
 have A:bits .and .u64 0 4294967295=0:=by decide +kernel
 have B:IntKind.u64.wrap (n:Int)=(n:Int):=by rw[IntKind.wrap_u64];omega
 go_enter func207,ntmps207
 go_wp2;go_ret2;exact⟨rfl,rfl⟩
def mul_one'(n:Nat)(f:n<=65536)(w):
 Calls prog 166 #[.int .u64 1,.int .u64 (n:Int)] w λ e w'=>e=.returned (.tuple #[.int .u64 0,.int .u64 (n:Int)])/\w'=w:=by
 go_enter func166,ntmps166
 go_wp2_with fail;refine(AC6 n f w).mono ?_;rintro e q ⟨rfl,rfl⟩;go_wp2_with fail;go_ret2;simp
structure Bf(w0 W:World)(h N:Nat)(x:Int)(k:Nat):Prop where
 below:Below h w0 W
 there:∀j,j<N->(W.cell? ⟨h,j,none⟩).isSome=true
 free:∀j,j<N->W.frozen? ⟨h,j,none⟩=false
 holds:∀j,j<k->W.cell? ⟨h,j,none⟩=some (.int .u8 x)
 fits:k<=N
def Bf.more{A W h N x k}(q:Bf A W h N x k)(d)(B:k+d<=N):Bf A (W.setCells h k (List.replicate d (.int .u8 x))) h N x (k+d):=by
 have K:=World.cell?_setCells_in h (List.replicate d (Value.int .u8 x)) k W (λ j f=>by rw[zm0]at f;exact q.there _ (by omega));have L:=World.cell?_setCells_out h (List.replicate d (Value.int .u8 x)) k W;have J:∀j,k<=j->j<k+d->(W.setCells h k (List.replicate d (.int .u8 x))).cell? ⟨h,j,none⟩=some (.int .u8 x):=λ j E I=>by
  obtain⟨e,rfl⟩:∃e,j=k+e:=⟨j-k,by omega⟩
  grind
 have r:∀j,¬(k<=j/\j<k+d)->(W.setCells h k (List.replicate d (.int .u8 x))).cell? ⟨h,j,none⟩=W.cell? ⟨h,j,none⟩:=λ j f=>by grind
 refine⟨Lib.below_setCells h (AE _) _ _ q.below,λ j f=>?_,λ j f=>by rw[World.frozen?_setCells];exact q.free j f,λ j f=>?_,B⟩
 .by_cases e:k<=j/\j<k+d
  .grind
  .rw[r j e];exact q.there j f
 .by_cases e:k<=j
  .grind
  .rw[r j (by omega)];exact q.holds j (by omega)
def Bf.owB{A W h N x}(f:Bf A W h N x N)(r:N<=maxLen):List.replicate N x=[]\/A4 W (.slice (some ⟨h,0,none⟩) N N) (List.replicate N x):=by
 by_cases B:N=0
 .grind
 .refine .inr ⟨h,0,N,by simp,by simp,r,zb0 W ⟨h,0,none⟩ (f.holds 0 (by omega)),λ i q=>?_,λ j E=>by grind⟩;rw[zm0]at q;rw[Nat.zero_add,f.holds i q]
  grind
section
variable {P:Program}
def Vk{f o a w K Q E}(r:o.guard=none)(d s t q)(A:o.op=.call { callee:=.builtin .copy,args:=#[d,s],argTypes:=#[t,q] })(v u)(hd:a.eval d=v)(hs:a.eval s=u){v' w'}(hr:(Builtin.copy_ #[t,q] o.type #[v,u]).run P w=.ok v' w')(h:K (a.put o.dst v') w'):
 if Region.wanted o (yielded f a.tmps)=true then Oper.wp P o a w K Q else E:=by
 have B:Region.wanted o (yielded f a.tmps)=true:=by simp[Region.wanted,r]
 rw[if_pos B];unfold Oper.wp;simp[execOp,A,resolve,invoke,builtin,hd,hs,hr,Result.andThen];exact h
end
theorem ABJ:(prog.info? 5).map (·.size)=some 1:=by kernel_rfl
def Bf.copy{B W h N x k}(A:Bf B W h N x k)(f c cap)(E:∀j,j<c->W.cell? (f.add j)=some (.int .u8 x))(ty):
 (Builtin.copy_ #[40,40] ty #[.slice (some ⟨h,k,none⟩) (N-k) (N-k),.slice (some f) c cap]).run prog W=.ok (.int .i64 ((min c (N-k):Nat):Int)) (W.setCells h k (List.replicate (min c (N-k)) (.int .u8 x))):=by
 have r:=run_copy_cells (P:=prog) W 40 40 ty 5 h k (N-k) (N-k) f c cap (List.replicate (min c (N-k)) (.int .u8 x)) underlying40 ABJ (by rw[zm0])
  (λ j v hv=>by
   grind)
  (λ j q=>by rw[zm0]at q;exact A.there _ (by omega))
  (λ j q=>by rw[zm0]at q;exact A.free _ (by omega))
  (λ v hv=>by rw[List.mem_replicate]at hv;rw[hv.2];rfl)
 rw[zm0]at r;exact r
def AEw(g x)(n:Nat)(w)(hg:w.cell? ⟨g,0,none⟩=some (.int .u8 x))(hn:n<=65536):
 Calls prog 135 #[.slice (some ⟨g,0,none⟩) 1 1,.int .i64 (n:Int)] w λ e w'=>∃rv,e=.returned rv/\Nw w.heap.size w' rv (List.replicate n x)/\Below w.heap.size w w':=by
 by_cases h0:n=0
 .subst h0;have K:Hid (Nw w.heap.size (w.alloc (.cells #[] 5)) (.slice (some ⟨w.heap.size,0,none⟩) 0 0) []):=
   Nw.of_owns (World.ownsRow_lit w #[] 0 (AI _) (by unfold maxLen;omega) rfl) (λ k hk=>by simp only[Value.ownBlock,Option.some.injEq]at hk;omega)
  go_enter func135,ntmps135
  go_wp2_with fail;go_ret;exact⟨_,rfl,K.o,(Below.refl _ _).alloc (AE _) _⟩
 .have ap:1<=n:=by omega
  have aq:((n:Int)==0)=false:=by rw[zi0];omega
  have ao:(n:Int) % 18446744073709551616=(n:Int):=by omega
  obtain⟨O,a8,ai,ak⟩:=Lib.run_makeNoZero (P:=prog) w #[3] 40 5 underlying40 n (by omega);have a6:(callFunc 167 #[.int .i64 (n:Int)]).run prog w=.ok (.value (.slice (some ⟨w.heap.size,0,none⟩) n O.size)) ((w.alloc (.cells O 5)).drewN 2):=by rw[run_callFunc_extern func167 (by kernel_rfl) (by kernel_rfl) (by kernel_rfl) (e:=Extern.BytealgMakeNoZero.makeNoZero #[3] #[40]) (by kernel_rfl),a8];rfl
  clear a8;have i0:(0:Int)<=(n:Int):=by omega
  have i1:(n:Int)<=(O.size:Int):=by omega
  obtain⟨Z,a4⟩:=exH ((w.alloc (.cells O 5)).drewN 2);have T:=Lib.Buf.start w O 5 n 2 ai;rw[a4.o]at a6 T;have X:Hid (Bf w Z w.heap.size n x 0):=⟨T.below,T.there,T.free,λ j E=>by omega,AI _⟩
  have HG:=z6 hg;clear T ak;have a7:Z.cell? ⟨g,0,none⟩=some (.int .u8 x):=by rw[X.o.below.cell (p:=⟨g,0,none⟩) (zb0 w ⟨g,0,none⟩ hg)];exact hg
  have a1:=X.o.copy ⟨g,0,none⟩ 1 1 (λ j E=>by obtain rfl:j=0:=(by omega);exact a7) 3;have I:Hid (Bf w (Z.setCells w.heap.size 0 (List.replicate (min 1 (n-0)) (.int .u8 x))) w.heap.size n x 1):=by
   have:=X.o.more (min 1 (n-0)) (by omega);rw[show min 1 (n-0)=1 by omega]at this |-
   exact this
  obtain⟨W1,a5⟩:=exH (Z.setCells w.heap.size 0 (List.replicate (min 1 (n-0)) (.int .u8 x)));rw[a5.o]at a1 I;rw[show min 1 (n-0)=1 by omega,Nat.sub_zero]at a1;obtain⟨h,hh⟩:=exN w.heap.size;have Y:=z6 hh;rw[hh]at a1 I a6;clear hg a7 HG X a4 a5 hh;have hz:decide ((n:Int)<0)=false:=by rw[AT];omega
  have ar:decide ((9223372036854775807:Int)<(n:Int))=false:=by rw[AT];omega
  obtain⟨M,hM⟩:∃M:Nat,(n<=8192/\M=n)\/(8192<n/\M=8192):=by by_cases e:n<=8192;exact⟨n,.inl ⟨e,rfl⟩⟩;exact⟨8192,.inr ⟨by omega,rfl⟩⟩
  have an:1<=M/\M<=8192:=by omega
  rcases hM with⟨hM,rfl⟩|⟨hM,rfl⟩
  .have h8:decide ((8192:Int)<(M:Int))=false:=by rw[AT];omega
   go_enter func135,ntmps135
   go_wp2_with fail;refine(mul_one' M hn w).mono ?_;rintro e r ⟨rfl,rfl⟩;go_wp2_with fail
   go_loopw [10] (λ i wr=>∃k:Nat,1<=k/\k<=M/\i=.int .i64 k/\Hid (Bf r wr h M x k)) (λ i _=>M-(intOf i).toNat)
   (case atStart=>exact⟨1,by omega,by omega,rfl,I⟩);case round=>
    clear I;obtain⟨k,ae,hk,rfl,B⟩:=hrel;by_cases aj:k<M
    .obtain⟨c,hc⟩:∃c:Nat,min k M=c:=⟨_,rfl⟩
     (have al:min (k:Int) (M:Int)=(c:Int):=by omega);(have aa:c<=k:=by omega);(have a9:1<=c:=by omega);clear hc;obtain⟨d,U⟩:∃d:Nat,min c (M-k)=d:=⟨_,rfl⟩
     (have a2:1<=d/\k+d<=M:=by omega);have a0:Hid (∀W,Bf r W h M x k->(Builtin.copy_ #[40,40] 3 #[.slice (some ⟨h,k,none⟩) (M-k) (M-k),.slice (some ⟨h,0,none⟩) c M]).run prog W=.ok (.int .i64 (d:Int)) (W.setCells h k (List.replicate d (.int .u8 x)))):=λ W f=>by have:=f.copy ⟨h,0,none⟩ c M (λ j E=>by rw[Addr.add_lit,Nat.zero_add];exact f.holds j (by omega)) 3;rw[U]at this;exact this
     clear U;have L:Hid (∀W,Bf r W h M x k->Bf r (W.setCells h k (List.replicate d (.int .u8 x))) h M x (k+d)):=λ W f=>f.more d a2.2;have J:Hid (∀(W:World)(q:Nat),Bf r W h M x k->Bf r (W.drewN q) h M x k):=λ W q f=>⟨f.below.trans (Below.of_drewN _ _ _),f.there,f.free,f.holds,f.fits⟩
     (have af:(0:Int)<=(k:Int):=by omega);(have ag:(k:Int)<=(M:Int):=by omega);(have ab:(0:Int)<=(c:Int):=by omega);(have ac:(c:Int)<=(M:Int):=by omega);(have am:¬M=k:=by omega);(have ad:¬k=0:=by omega);go_wp2_with fail
     go_region_law (refine Vk rfl (.tmp 70) (.tmp 73) 40 40 rfl (.slice (some ⟨h,k,none⟩) (M-k) (M-k)) (.slice (some ⟨h,0,none⟩) c M) (by simp[Act.eval,Act.put]) (by simp[Act.eval,Act.put]) (a0.o _ (by first|exact B.o|exact J.o _ _ B.o)) ?_)
     have a3:IntKind.i64.wrap ((k:Int)+(d:Int))=(k:Int)+(d:Int):=Bp _ (by omega) (by omega);simp only[List.getElem_toArray,List.getElem_cons_succ,List.getElem_cons_zero,Act.put,List.setIfInBounds_toArray,List.set_cons_zero,List.set_cons_succ,a3];go_wp2_with fail
     go_roundw
     (case rel=>exact⟨k+d,by omega,by omega,by go_num,by first|exact L.o _ B.o|exact L.o _ (J.o _ _ B.o)⟩);case measure=>simp[intOf];omega
    .obtain rfl:k=M:=by omega
     have K:Hid (Nw r.heap.size wr (.slice (some ⟨h,0,none⟩) k k) (List.replicate k x)):=by refine⟨⟨_,k,by rw[zm0],by rw[zm0];exact AE _,by unfold maxLen;omega,(λ e=>by cases e),.inr ⟨h,0,rfl,λ i A=>?_⟩⟩,λ b o n c e i A=>?_,λ j E=>?_,B.o.owB (by unfold maxLen;omega)⟩;rw[zm0]at A;rw[Nat.zero_add,B.o.holds i A];simp[AP,List.getElem?_replicate,A];rw[zm0]at A;simp only[Value.slice.injEq,Option.some.injEq,Addr.mk.injEq,and_true]at e;obtain⟨⟨rfl,rfl⟩,_⟩:=e;rw[Nat.zero_add];exact B.o.free i A;simp only[Value.ownBlock,Option.some.injEq]at E;have:=Y.o;omega
     (have HB:Hid (Below r.heap.size r wr):=by rw[Y.o];exact B.o.below);go_wp2_with fail;go_ret;exact⟨_,rfl,K.o,HB.o⟩
  .have h8:decide ((8192:Int)<(n:Int))=true:=by rw[zg1];omega
   go_enter func135,ntmps135
   go_wp2_with fail;refine(mul_one' n hn w).mono ?_;rintro e r ⟨rfl,rfl⟩;go_wp2_with fail
   go_loopw [10] (λ i wr=>∃k:Nat,1<=k/\k<=n/\i=.int .i64 k/\Hid (Bf r wr h n x k)) (λ i _=>n-(intOf i).toNat)
   (case atStart=>exact⟨1,by omega,by omega,rfl,I⟩);case round=>
    clear I;obtain⟨k,ae,hk,rfl,B⟩:=hrel;by_cases aj:k<n
    .obtain⟨c,hc⟩:∃c:Nat,min k 8192=c:=⟨_,rfl⟩
     (have al:min (k:Int) 8192=(c:Int):=by omega);(have aa:c<=k:=by omega);(have a9:1<=c:=by omega);clear hc;obtain⟨d,U⟩:∃d:Nat,min c (n-k)=d:=⟨_,rfl⟩
     (have a2:1<=d/\k+d<=n:=by omega);have a0:Hid (∀W,Bf r W h n x k->(Builtin.copy_ #[40,40] 3 #[.slice (some ⟨h,k,none⟩) (n-k) (n-k),.slice (some ⟨h,0,none⟩) c n]).run prog W=.ok (.int .i64 (d:Int)) (W.setCells h k (List.replicate d (.int .u8 x)))):=λ W f=>by have:=f.copy ⟨h,0,none⟩ c n (λ j E=>by rw[Addr.add_lit,Nat.zero_add];exact f.holds j (by omega)) 3;rw[U]at this;exact this
     clear U;have L:Hid (∀W,Bf r W h n x k->Bf r (W.setCells h k (List.replicate d (.int .u8 x))) h n x (k+d)):=λ W f=>f.more d a2.2;have J:Hid (∀(W:World)(q:Nat),Bf r W h n x k->Bf r (W.drewN q) h n x k):=λ W q f=>⟨f.below.trans (Below.of_drewN _ _ _),f.there,f.free,f.holds,f.fits⟩
     (have af:(0:Int)<=(k:Int):=by omega);(have ag:(k:Int)<=(n:Int):=by omega);(have ab:(0:Int)<=(c:Int):=by omega);(have ac:(c:Int)<=(n:Int):=by omega);(have am:¬n=k:=by omega);(have ad:¬k=0:=by omega);go_wp2_with fail
     go_region_law (refine Vk rfl (.tmp 70) (.tmp 73) 40 40 rfl (.slice (some ⟨h,k,none⟩) (n-k) (n-k)) (.slice (some ⟨h,0,none⟩) c n) (by simp[Act.eval,Act.put]) (by simp[Act.eval,Act.put]) (a0.o _ (by first|exact B.o|exact J.o _ _ B.o)) ?_)
     have a3:IntKind.i64.wrap ((k:Int)+(d:Int))=(k:Int)+(d:Int):=Bp _ (by omega) (by omega);simp only[List.getElem_toArray,List.getElem_cons_succ,List.getElem_cons_zero,Act.put,List.setIfInBounds_toArray,List.set_cons_zero,List.set_cons_succ,a3];go_wp2_with fail
     go_roundw
     (case rel=>exact⟨k+d,by omega,by omega,by go_num,by first|exact L.o _ B.o|exact L.o _ (J.o _ _ B.o)⟩);case measure=>simp[intOf];omega
    .obtain rfl:k=n:=by omega
     have K:Hid (Nw r.heap.size wr (.slice (some ⟨h,0,none⟩) k k) (List.replicate k x)):=by refine⟨⟨_,k,by rw[zm0],by rw[zm0];exact AE _,by unfold maxLen;omega,(λ e=>by cases e),.inr ⟨h,0,rfl,λ i A=>?_⟩⟩,λ b o n c e i A=>?_,λ j E=>?_,B.o.owB (by unfold maxLen;omega)⟩;rw[zm0]at A;rw[Nat.zero_add,B.o.holds i A];simp[AP,List.getElem?_replicate,A];rw[zm0]at A;simp only[Value.slice.injEq,Option.some.injEq,Addr.mk.injEq,and_true]at e;obtain⟨⟨rfl,rfl⟩,_⟩:=e;rw[Nat.zero_add];exact B.o.free i A;simp only[Value.ownBlock,Option.some.injEq]at E;have:=Y.o;omega
     (have HB:Hid (Below r.heap.size r wr):=by rw[Y.o];exact B.o.below);go_wp2_with fail;go_ret;exact⟨_,rfl,K.o,HB.o⟩
