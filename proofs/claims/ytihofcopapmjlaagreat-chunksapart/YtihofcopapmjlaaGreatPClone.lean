import Derived.Test.YtihofcopapmjlaaGreatPFGetP
import Derived.Lib.SlBuf
set_option maxRecDepth 100000
set_option linter.all false
set_option maxHeartbeats 8000000
namespace Go.Proofs.YtihofcopapmjlaaGreat
open Go.Proofs.Tryz
open Go.RowKit
structure Nw(n1:Nat)(w:World)(v:Value)(xs:List Int):Prop where
 rd:Rd .u8 w v xs
 fz:∀b o n c,v=.slice (some ⟨b,o,none⟩) n c->∀i,i<xs.length->w.frozen? ⟨b,o+i,none⟩=false
 new:∀k,v.ownBlock=some k->n1<=k
 sp:xs=[]\/A4 w v xs
def Nw.of_owns{f w v xs}(h:AF .u8 5 w v xs)(q:∀k,v.ownBlock=some k->f<=k):Nw f w v xs:=by
 refine⟨h.rd,λ b o n c e i B=>?_,q,Classical.byCases .inl (λ e=>.inr (A4.of_owns h e))⟩;obtain⟨g,cap,r,_,_,_,_,A⟩:=h.shape (by omega)
 grind
def Nw.nil(f w):Nw f w (.slice none 0 0) []:=⟨⟨none,0,rfl,AE _,by omega,λ _=>rfl,.inl rfl⟩,λ _ _ _ _ e=>(by cases e),λ k e=>(by cases e),.inl rfl⟩
def Nw.tch{S B w w' v xs}(h:Nw B w v xs)(r:AD S w w')(q:∀k,v.ownBlock=some k->¬S k):Nw B w' v xs:=by
 refine⟨h.rd.tch r q,λ b o n c e i A=>?_,h.new,h.sp.imp id (λ e=>e.tch r q)⟩;obtain⟨a,cap,f,_,_,_,hc⟩:=h.rd;rcases hc with J|⟨I,K,E,hc⟩
 .grind
 .rw[e,E]at f;simp only[Value.slice.injEq,Option.some.injEq,Addr.mk.injEq,and_true]at f;obtain⟨⟨rfl,rfl⟩,_⟩:=f;rw[r.frozen (p:=⟨b,o+i,none⟩) (zb0 w ⟨b,o+i,none⟩ (hc i A)) (q b (by rw[e];rfl))];exact h.fz b o n c e i A
def Nw.below{f w w' v xs}(h:Nw f w v xs)(q:Below w.heap.size w w'):Nw f w' v xs:=h.tch (S:=λ _=>False) (AD.of_below q) (λ _ _ e=>e)
def Ri(v xs w)(h:Rd .u8 w v xs)(hl:xs.length<=140737488355328):
 Calls prog 87 #[v] w λ e w'=>∃K,e=.returned K/\Nw w.heap.size w' K xs/\Below w.heap.size w w':=by
 have H:=z6 h;have a0:∀(w:World)(a:Option Addr)(n c A f:Nat),(binOp .eql 40 (.slice a n c) (.slice none A f)).run prog w=.ok (.bool a.isNone) w:=λ w a n c A f=>Lib.run_eql_slice_nil w _ _ a n c A f underlying40;obtain⟨a,cap,rfl,B,E,q,I⟩:=h;cases a with
 | none=>
  have Y:=q rfl;subst Y;have hx:xs=[]:=ze0 (by omega);subst hx;clear B E q I H;simp only[List.length_nil]
  go_enter func87,ntmps87
  go_wp2;go_ret;exact⟨_,rfl,Nw.nil _ _,Below.refl _ _⟩
 | some X=>
  have T:Hid (AF .u8 5 (w.alloc (.cells #[] 5)) (.slice (some ⟨w.heap.size,0,none⟩) 0 0) []):=World.ownsRow_lit w #[] 0 (AI _) (by omega) rfl;have W:Hid (Rd .u8 (w.alloc (.cells #[] 5)) (.slice (some X) xs.length cap) xs):=H.o.below ((Below.refl _ _).alloc (AE _) _);clear B E q I
  go_enter func87,ntmps87
  go_wp2_with(at_builtin;refine Hr _ rfl (.tmp 5) (.tmp 6) 40 rfl 5 .u8 1 Dd _ [] rfl T.o _ xs rfl W.o (by simp;omega) (by simp;omega) ?_)
  intro L w1 ho r;have J:=((Below.refl _ _).alloc (AE _) _).trans (r.tch.below (by simp) (λ k e=>by simp only[Value.ownBlock,Option.some.injEq]at e;omega));have U:Hid (Nw w.heap.size w1 L xs):=by refine Nw.of_owns (by omega) (λ k Z=>?_);rcases r.fresh k Z with e|e;simp only[Value.ownBlock,Option.some.injEq]at e;omega;simp at e;omega
  have O:=z6 J;clear ho r J;go_wp2_with fail;go_ret;exact⟨L,rfl,U.o,O.o⟩
def ADo(w:World):A4 (w.alloc (.cells #[] 5)) (.slice (some ⟨w.heap.size,0,none⟩) 0 0) []:=by refine⟨w.heap.size,0,0,rfl,AE _,by omega,by simp,λ i f=>by simp at f,λ j q=>by simp at q⟩
def Nt{f n cap xs w}(r:Rd .u8 w (.slice (some f) n cap) xs)(Z:n<=100000):
 Calls prog 103 #[.slice (some f) n cap] w λ e w'=>∃E,e=.returned E/\A4 w' E xs/\Below w.heap.size w w'/\∀k,E.ownBlock=some k->w.heap.size<=k:=by
 obtain⟨h,Y⟩:Rd .u8 w (.slice (some f) n cap) xs/\xs.length<=100000:=⟨r,by obtain⟨a,c,e,_⟩:=r;grind⟩
 clear r;have H:=z6 h;have a0:∀(w:World)(a:Option Addr)(n c B q:Nat),(binOp .eql 40 (.slice a n c) (.slice none B q)).run prog w=.ok (.bool a.isNone) w:=λ w a n c B q=>Lib.run_eql_slice_nil w _ _ a n c B q underlying40;have O:=z6 (ADo w);have T:Hid (Rd .u8 (w.alloc (.cells #[] 5)) (.slice (some f) n cap) xs):=H.o.below ((Below.refl _ _).alloc (AE _) _);clear h
 go_enter func103,ntmps103
 go_wp2_with(at_builtin;refine Wk _ rfl (.tmp 5) (.tmp 6) rfl _ [] rfl O.o _ xs rfl T.o (by simp;omega) ?_)
 intro I X W A;have K:=((Below.refl _ _).alloc (AE _) _).trans (A.tch.below (by simp) (λ k e=>by simp only[Value.ownBlock,Option.some.injEq]at e;omega));have J:Hid (A4 X I xs/\∀k,I.ownBlock=some k->w.heap.size<=k):=by refine⟨by omega,(λ k U=>?_)⟩;rcases A.fresh k U with e|e;simp only[Value.ownBlock,Option.some.injEq]at e;omega;simp at e;omega
 have L:=z6 K;clear W A K;go_wp2_with fail;go_ret;exact⟨I,rfl,J.o.1,L.o,J.o.2⟩
