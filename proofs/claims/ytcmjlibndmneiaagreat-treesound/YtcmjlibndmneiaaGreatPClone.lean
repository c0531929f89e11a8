import Derived.Test.YtcmjlibndmneiaaGreatPRow0
import Derived.Lib.SlBuf
set_option maxRecDepth 100000
set_option linter.all false
set_option maxHeartbeats 8000000
namespace Go.Proofs.YtcmjlibndmneiaaGreat
open Go.RowKit
structure Nw(n1:Nat)(w:World)(v:Value)(xs:List Int):Prop where
 rd:Rd .u8 w v xs
 fz:∀b o n c,v=.slice (some ⟨b,o,none⟩) n c->∀i,i<xs.length->w.frozen? ⟨b,o+i,none⟩=false
 new:∀k,v.ownBlock=some k->n1<=k
def Nw.of_owns{n1:Nat}{w:World}{v:Value}{xs:List Int}(h:Owns .u8 5 w v xs)(E:∀k,v.ownBlock=some k->n1<=k):Nw n1 w v xs:=by refine⟨h.rd,λ b o n c e i H=>?_,E⟩;obtain⟨g,cap,u,_,_,_,_,A⟩:=h.shape (by omega);rw[e]at u;simp only[Value.slice.injEq,Option.some.injEq,Addr.mk.injEq,and_true]at u;obtain⟨⟨rfl,rfl⟩,_⟩:=u;exact A _
def Nw.nil(n1:Nat)(w:World):Nw n1 w (.slice none 0 0) []:=⟨⟨none,0,rfl,zn6 _,by unfold maxLen;omega,λ _=>rfl,.inl rfl⟩,λ _ _ _ _ e=>(by cases e),λ k e=>by cases e⟩
def Nw.tch{S:Nat->Prop}{n1:Nat}{w w':World}{v:Value}{xs:List Int}(h:Nw n1 w v xs)(I:Tch S w w')(H:∀k,v.ownBlock=some k->¬S k):Nw n1 w' v xs:=by
 refine⟨h.rd.tch I H,λ b o n c e i u=>?_,h.new⟩;obtain⟨a,cap,A,_,_,_,E⟩:=h.rd;rcases E with O|⟨Q,T,K,E⟩
 .rw[O]at u;simp at u
 .rw[e,K]at A;simp only[Value.slice.injEq,Option.some.injEq,Addr.mk.injEq,and_true]at A;obtain⟨⟨rfl,rfl⟩,_⟩:=A;rw[I.frozen (p:=⟨b,o+i,none⟩) (ze0 w ⟨b,o+i,none⟩ (E i u)) (H b (by rw[e];rfl))];exact h.fz b o n c e i u
def zql9(v:Value)(xs:List Int)(w:World)(h:Rd .u8 w v xs)(hl:xs.length<=140737488355328):
 Calls Tryz.prog 94 #[v] w λ e w'=>∃rv,e=.returned rv/\Nw w.heap.size w' rv xs/\Below w.heap.size w w':=by
 have H:=za0 h;have a1:∀(w:World)(a:Option Addr)(n c I u:Nat),(binOp .eql 61 (.slice a n c) (.slice none I u)).run Tryz.prog w=.ok (.bool a.isNone) w:=λ w a n c I u=>Lib.run_eql_slice_nil w _ _ a n c I u Tryz.underlying61;obtain⟨a,cap,rfl,K,O,A,Q⟩:=h;cases a with
 | none=>
  have a0:=A rfl;subst a0;have hx:xs=[]:=zh0 (by omega);subst hx;clear K O A Q H;simp only[List.length_nil]
  go_enter Tryz.func94,Tryz.ntmps94
  go_wp2;go_ret;exact⟨_,rfl,Nw.nil _ _,Below.refl _ _⟩
 | some ad=>
  have HE:Hid (Owns .u8 5 (w.alloc (.cells #[] 5)) (.slice (some ⟨w.heap.size,0,none⟩) 0 0) []):=World.ownsRow_lit w #[] 0 (zn7 _) (by unfold maxLen;omega) rfl;have HR:Hid (Rd .u8 (w.alloc (.cells #[] 5)) (.slice (some ad) xs.length cap) xs):=H.o.below ((Below.refl _ _).alloc (zn6 _) _);clear K O A Q
  go_enter Tryz.func94,Tryz.ntmps94
  go_wp2_with(at_builtin;refine zlz9 _ rfl (.tmp 5) (.tmp 6) 61 rfl 5 .u8 1 elem8 _ [] rfl HE.o _ xs rfl HR.o (by simp;omega) (by simp;omega) ?_)
  intro v1 w1 Y E;have T:=((Below.refl _ _).alloc (zn6 _) _).trans (E.tch.below (by simp) (λ k e=>by simp only[Value.ownBlock,Option.some.injEq]at e;omega));have HN:Hid (Nw w.heap.size w1 v1 xs):=by
   refine Nw.of_owns (by simpa using Y) (λ k hk=>?_);rcases E.fresh k hk with e|e
   .simp only[Value.ownBlock,Option.some.injEq]at e;omega
   .simp at e;omega
  have HB:=za0 T;clear Y E T;go_wp2_with fail;go_ret;exact⟨v1,rfl,HN.o,HB.o⟩
