import Derived.Test.YtcmjlibndmneiaaGreatPTPl
import Derived.Test.YtcmjlibndmneiaaGreatPDMap
set_option maxRecDepth 100000
set_option linter.all false
set_option maxHeartbeats 8000000
namespace Go.Proofs.YtcmjlibndmneiaaGreat
open Go.RowKit
def Coh(s:CS)(D:DS):Prop:=∀n:Nat,n∈s.c->Go.Proofs.YtcmjlibndmneiaaGreat.getE (n:Int) (D.has n)=0/\s.B n=Go.Proofs.YtcmjlibndmneiaaGreat.getB (n:Int) (D.has n)
noncomputable def vwC(s:CS)(D:DS)(x:Int):Int×Nd:=vwB (s.getE D x) (s.getB D x)
noncomputable def vwD(D:DS)(x:Int):Int×Nd:=if kthere D.L.length x=true then vwB (Go.Proofs.YtcmjlibndmneiaaGreat.getE x (D.has x.toNat)) (Go.Proofs.YtcmjlibndmneiaaGreat.getB x (D.has x.toNat))else(2,noneN)
def zko9{e:Int}(h:e≠0)(b:Int×List Int):vwB e b=(e,noneN):=if_neg h
def vwB_ok{b:Int×List Int}{n:Nd}(h:getN b.1 b.2=some n):vwB 0 b=(0,n):=by unfold vwB;rw[if_pos rfl,h]
def vwB_no{b:Int×List Int}(h:getN b.1 b.2=none):vwB 0 b=(7,noneN):=by unfold vwB;rw[if_pos rfl,h]
section
variable {s:CS} {D:DS}
def zbj9{N:Nat}{x:Int}(h:kthere N x=true):((x.toNat:Nat):Int)=x:=by have:=zm9.1 h;omega
def zbz9(E:Coh s D){x:Int}(h:x.toNat∉s.d\/kthere D.L.length x=false):vwC s D x=vwD D x:=by
 unfold vwC vwD CS.getE CS.getB;cases hk:kthere D.L.length x with
 | false=>simp only[if_false,Bool.false_eq_true];exact zko9 (by decide) _
 | true=>
  have A:=h.resolve_right (by rw[hk];simp);simp only[if_true];by_cases u:x.toNat∈s.c
  .rw[if_pos (.inr u),if_pos (.inr u)];have:=E _ u;rw[zbj9 hk]at this;rw[this.1,this.2]
  .rw[if_neg (λ e=>e.elim A u),if_neg (λ e=>e.elim A u)]
def zeg9{x:Int}(u:kthere D.L.length x=true)(h:x.toNat∈s.d):vwC s D x=vwB 0 (s.B x.toNat):=by unfold vwC CS.getE CS.getB;rw[u,if_pos rfl,if_pos rfl,if_pos (.inl h),if_pos (.inl h)]
def getS_d(A:Coh s D)(x:Int)(h:x.toNat∉s.d)(E:0<=x):(s.keep x.toNat (s.getB D x)).d=s.d:=by show kwo s.d _=_;exact zjr9 (λ m u e=>h (by have:m=x.toNat:=(by omega);rw[<-this];exact u))
def zdp9{x:Int}(h:s.getE D x=0):kthere D.L.length x=true:=by
 unfold CS.getE at h;cases hk:kthere D.L.length x with
 | true=>rfl
 | false=>rw[hk]at h;simp at h
def zze9(I:Coh s D){x:Int}(u:s.getE D x=0)(H:x.toNat∉s.d):Go.Proofs.YtcmjlibndmneiaaGreat.getE x (D.has x.toNat)=0/\s.getB D x=Go.Proofs.YtcmjlibndmneiaaGreat.getB x (D.has x.toNat):=by
 have E:=zdp9 u;unfold CS.getE at u;unfold CS.getB;rw[if_pos E]at u;rw[if_pos E];by_cases A:x.toNat∈s.c
 .have:=I _ A;rw[zbj9 E]at this;rw[if_pos (.inr A)];exact this
 .rw[if_neg (λ e=>e.elim H A)]at u;rw[if_neg (λ e=>e.elim H A)];exact⟨u,rfl⟩
def Coh.get(u:Coh s D)(x:Int):Coh (s.getS D x) D:=by
 unfold CS.getS;split
 .rename_i h;have A:=zdp9 h.1;have hv:=zze9 u h.1 h.2;intro n E;show _/\bput s.B x.toNat (s.getB D x) n=_;rcases znt9 E with e|⟨e,H⟩
  .subst e;rw[zdc9,zbj9 A];exact hv
  .rw[zbq9 _ _ H];exact u n e
 .exact u
def vw_get(I:Coh s D)(x y:Int):vwC (s.getS D x) D y=vwC s D y:=by
 by_cases u:y.toNat∉s.d\/kthere D.L.length y=false
 .rw[zbz9 I u,zbz9 (I.get x)];rcases u with u|u
  .left;unfold CS.getS;split
   .exact λ e=>u (zi9.1 e).1
   .exact u
  .exact .inr u
 .have E:y.toNat∈s.d:=Classical.byContradiction λ e=>u (.inl e);have K:kthere D.L.length y=true:=by
   cases e:kthere D.L.length y with
   | true=>rfl
   | false=>exact absurd (.inr e) u
  rw[zeg9 K E];by_cases A:s.getE D x=0/\x.toNat∉s.d
  .have H:s.getS D x=s.keep x.toNat (s.getB D x):=if_pos A;have O:y.toNat≠x.toNat:=λ e=>A.2 (by rw[<-e];exact E);have Q:=zbj9 (zdp9 A.1);rw[H,zeg9 K (by rw[getS_d I x A.2 (by omega)];exact E)];show vwB 0 (bput s.B x.toNat _ y.toNat)=_;rw[zbq9 _ _ O]
  .have H:s.getS D x=s:=if_neg A;rw[H,zeg9 K E]
def Coh.put(u:Coh s D){N:Nat}(x k:Int)(ys:List Int):Coh (s.putS N x k ys) D:=by
 unfold CS.putS;split
 .rename_i h;intro n H;have I:=H;obtain⟨A,E⟩:=zi9.1 I;show _/\bput s.B x.toNat (k,ys) n=_;rw[zbq9 _ _ (λ e=>E (by rw[e]))];exact u n A
 .exact u
def vw_put(O:Coh s D)(x k:Int)(ys:List Int)(A:s.putE D.L.length x k ys=0)(y:Int):vwC (s.putS D.L.length x k ys) D y=updI (vwC s D) x (vwB 0 (k,ys)) y:=by
 have H:kthere D.L.length x=true:=by
  unfold CS.putE at A;cases hk:kthere D.L.length x with
  | true=>rfl
  | false=>rw[hk]at A;simp at A
 have E:s.putS D.L.length x k ys=s.lay x.toNat (k,ys):=if_pos A;have Q:=zbj9 H;by_cases e:y=x
 .subst e;rw[zck9,E,zeg9 H (zbw9.2 (.inl rfl))];show vwB 0 (bput s.B _ _ _)=_;rw[zdc9]
 .rw[zcj9 _ _ e,E];unfold vwC CS.getE CS.getB;cases hk:kthere D.L.length y with
  | false=>rfl
  | true=>
   have T:=zbj9 hk;(have I:y.toNat≠x.toNat:=by omega);have K:(y.toNat∈(s.lay x.toNat (k,ys)).d\/y.toNat∈(s.lay x.toNat (k,ys)).c)↔(y.toNat∈s.d\/y.toNat∈s.c):=by
    show(_∈kins _ _\/_∈kwo _ _)↔_;rw[zbw9,zi9];constructor
    .rintro((h|h)|⟨h,_⟩)
     .exact absurd h I
     .exact .inl h
     .exact .inr h
    .rintro(h|h)
     .exact .inl (.inr h)
     .exact .inr ⟨h,by omega⟩
   simp only[if_true,K];by_cases u:y.toNat∈s.d\/y.toNat∈s.c
   .rw[if_pos u,if_pos u,if_pos u];show vwB 0 (bput s.B _ _ _)=_;rw[zbq9 _ _ I]
   .rw[if_neg u,if_neg u,if_neg u]
def Coh.forget(u:Coh s D)(x:Int):Coh (s.forget x) D:=λ n A=>u n (zi9.1 A).1
def zsb9(u:Coh s D)(x y:Int):vwC (s.forget x) D y=updI (vwC s D) x (vwD D x) y:=by
 by_cases e:y=x
 .subst e;rw[zck9];refine zbz9 (u.forget y) ?_;cases hk:kthere D.L.length y with
  | false=>exact .inr rfl
  | true=>exact .inl (λ h=>(zi9.1 h).2 (zbj9 hk))
 .rw[zcj9 _ _ e];unfold vwC CS.getE CS.getB;cases hk:kthere D.L.length y with
  | false=>rfl
  | true=>
   have E:=zbj9 hk;have A:(y.toNat∈(s.forget x).d\/y.toNat∈(s.forget x).c)↔(y.toNat∈s.d\/y.toNat∈s.c):=by
    show(_∈kwo _ _\/_∈kwo _ _)↔_;rw[zi9,zi9];constructor
    .rintro(⟨h,_⟩|⟨h,_⟩)
     .exact .inl h
     .exact .inr h
    .rintro(h|h)
     .exact .inl ⟨h,by omega⟩
     .exact .inr ⟨h,by omega⟩
   simp only[if_true,A];rfl
end
