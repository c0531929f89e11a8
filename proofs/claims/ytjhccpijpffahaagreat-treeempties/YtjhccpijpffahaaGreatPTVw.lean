import Derived.Test.YtjhccpijpffahaaGreatPTPl
import Derived.Test.YtjhccpijpffahaaGreatPDMap
set_option maxRecDepth 100000
set_option linter.unusedVariables false
set_option linter.unusedSimpArgs false
set_option maxHeartbeats 8000000
namespace Go.Proofs.YtjhccpijpffahaaGreat
open Go.RowKit
def Coh (s : CS) (D : DS) : Prop:=∀ n : Nat,n ∈ s.c -> Go.Proofs.YtjhccpijpffahaaGreat.getE (n : Int) (D.has n) = 0 /\ s.B n = Go.Proofs.YtjhccpijpffahaaGreat.getB (n : Int) (D.has n)
noncomputable def vwC (s : CS) (D : DS) (x : Int) : Int × Nd:=vwB (s.getE D x) (s.getB D x)
noncomputable def vwD (D : DS) (x : Int) : Int × Nd:=if kthere D.L.length x = true then vwB (Go.Proofs.YtjhccpijpffahaaGreat.getE x (D.has x.toNat)) (Go.Proofs.YtjhccpijpffahaaGreat.getB x (D.has x.toNat)) else (2,noneN)
theorem zmd9 {e : Int} (h : e ≠ 0) (b : Int × List Int) : vwB e b = (e,noneN):=if_neg h
theorem vwB_ok {b : Int × List Int} {n : Nd} (h : getN b.1 b.2 = some n) : vwB 0 b = (0,n):=by
 unfold vwB; rw [if_pos rfl,h]
theorem vwB_no {b : Int × List Int} (h : getN b.1 b.2 = none) : vwB 0 b = (7,noneN):=by
 unfold vwB; rw [if_pos rfl,h]
section
variable {s : CS} {D : DS}
theorem zbe9 {N : Nat} {x : Int} (h : kthere N x = true) : ((x.toNat : Nat) : Int) = x:=by have:=zo9.1 h; omega
theorem zex9 (hC : Coh s D) {x : Int} (h : x.toNat ∉ s.d ∨ kthere D.L.length x = false) : vwC s D x = vwD D x:=by
 unfold vwC vwD CS.getE CS.getB
 cases hk : kthere D.L.length x with
 | false => simp only [if_false,Bool.false_eq_true]; exact zmd9 (by decide) _
 | true =>
  have hd : x.toNat ∉ s.d:=h.resolve_right (by rw [hk]; simp)
  simp only [if_true]
  by_cases hc : x.toNat ∈ s.c
  ·rw [if_pos (.inr hc),if_pos (.inr hc)]
   have:=hC _ hc
   rw [zbe9 hk] at this
   rw [this.1,this.2]
  ·rw [if_neg (fun e => e.elim hd hc),if_neg (fun e => e.elim hd hc)]
theorem zey9 {x : Int} (hk : kthere D.L.length x = true) (h : x.toNat ∈ s.d) : vwC s D x = vwB 0 (s.B x.toNat):=by
 unfold vwC CS.getE CS.getB
 rw [hk,if_pos rfl,if_pos rfl,if_pos (.inl h),if_pos (.inl h)]
theorem getS_d (hC : Coh s D) (x : Int) (h : x.toNat ∉ s.d) (hx : 0 <= x) : (s.keep x.toNat (s.getB D x)).d = s.d:=by
 show kwo s.d _ = _
 exact zhg9 (fun m hm e => h (by have : m = x.toNat:=(by omega); rw [<- this]; exact hm))
theorem zcw9 {x : Int} (h : s.getE D x = 0) : kthere D.L.length x = true:=by
 unfold CS.getE at h
 cases hk : kthere D.L.length x with
 | true => rfl
 | false => rw [hk] at h; simp at h
theorem zub9 (hC : Coh s D) {x : Int} (h0 : s.getE D x = 0) (hd : x.toNat ∉ s.d) : Go.Proofs.YtjhccpijpffahaaGreat.getE x (D.has x.toNat) = 0 /\ s.getB D x = Go.Proofs.YtjhccpijpffahaaGreat.getB x (D.has x.toNat):=by
 have hk:=zcw9 h0
 unfold CS.getE at h0
 unfold CS.getB
 rw [if_pos hk] at h0
 rw [if_pos hk]
 by_cases hc : x.toNat ∈ s.c
 ·have:=hC _ hc
  rw [zbe9 hk] at this
  rw [if_pos (.inr hc)]
  exact this
 ·rw [if_neg (fun e => e.elim hd hc)] at h0
  rw [if_neg (fun e => e.elim hd hc)]
  exact ⟨h0,rfl⟩
theorem Coh.get (hC : Coh s D) (x : Int) : Coh (s.getS D x) D:=by
 unfold CS.getS
 split
 ·rename_i h
  have hk:=zcw9 h.1
  have hv:=zub9 hC h.1 h.2
  intro n hn
  show _ /\ bput s.B x.toNat (s.getB D x) n = _
  rcases zqk9 hn with e | ⟨e,ne⟩
  ·subst e
   rw [zcl9,zbe9 hk]
   exact hv
  ·rw [zbh9 _ _ ne]
   exact hC n e
 ·exact hC
theorem vw_get (hC : Coh s D) (x y : Int) : vwC (s.getS D x) D y = vwC s D y:=by
 by_cases hd : y.toNat ∉ s.d ∨ kthere D.L.length y = false
 ·rw [zex9 hC hd,zex9 (hC.get x)]
  rcases hd with hd | hd
  ·left
   unfold CS.getS
   split
   ·exact fun e => hd (zi9.1 e).1
   ·exact hd
  ·exact .inr hd
 ·have h1 : y.toNat ∈ s.d:=Classical.byContradiction fun e => hd (.inl e)
  have hk : kthere D.L.length y = true:=by
   cases e : kthere D.L.length y with
   | true => rfl
   | false => exact absurd (.inr e) hd
  rw [zey9 hk h1]
  by_cases hg : s.getE D x = 0 /\ x.toNat ∉ s.d
  ·have e1 : s.getS D x = s.keep x.toNat (s.getB D x):=if_pos hg
   have ne : y.toNat ≠ x.toNat:=fun e => hg.2 (by rw [<- e]; exact h1)
   have hx:=zbe9 (zcw9 hg.1)
   rw [e1,zey9 hk (by rw [getS_d hC x hg.2 (by omega)]; exact h1)]
   show vwB 0 (bput s.B x.toNat _ y.toNat) = _
   rw [zbh9 _ _ ne]
  ·have e1 : s.getS D x = s:=if_neg hg
   rw [e1,zey9 hk h1]
theorem Coh.put (hC : Coh s D) {N : Nat} (x k : Int) (ys : List Int) : Coh (s.putS N x k ys) D:=by
 unfold CS.putS
 split
 ·rename_i h
  intro n hn
  have hn' : n ∈ kwo s.c x.toNat:=hn
  obtain ⟨h1,h2⟩:=zi9.1 hn'
  show _ /\ bput s.B x.toNat (k,ys) n = _
  rw [zbh9 _ _ (fun e => h2 (by rw [e]))]
  exact hC n h1
 ·exact hC
theorem vw_put (hC : Coh s D) (x k : Int) (ys : List Int) (h0 : s.putE D.L.length x k ys = 0) (y : Int) : vwC (s.putS D.L.length x k ys) D y = updI (vwC s D) x (vwB 0 (k,ys)) y:=by
 have hx : kthere D.L.length x = true:=by
  unfold CS.putE at h0
  cases hk : kthere D.L.length x with
  | true => rfl
  | false => rw [hk] at h0; simp at h0
 have e1 : s.putS D.L.length x k ys = s.lay x.toNat (k,ys):=if_pos h0
 have hxx:=zbe9 hx
 by_cases e : y = x
 ·subst e
  rw [zca9,e1,zey9 hx (zbo9.2 (.inl rfl))]
  show vwB 0 (bput s.B _ _ _) = _
  rw [zcl9]
 ·rw [zcp9 _ _ e,e1]
  unfold vwC CS.getE CS.getB
  cases hk : kthere D.L.length y with
  | false => rfl
  | true =>
   have hyy:=zbe9 hk
   have ne : y.toNat ≠ x.toNat:=by omega
   have hm : (y.toNat ∈ (s.lay x.toNat (k,ys)).d ∨ y.toNat ∈ (s.lay x.toNat (k,ys)).c) ↔ (y.toNat ∈ s.d ∨ y.toNat ∈ s.c):=by
    show (_ ∈ kins _ _ ∨ _ ∈ kwo _ _) ↔ _
    rw [zbo9,zi9]
    constructor
    ·rintro ((h | h) | ⟨h,_⟩)
     ·exact absurd h ne
     ·exact .inl h
     ·exact .inr h
    ·rintro (h | h)
     ·exact .inl (.inr h)
     ·exact .inr ⟨h,by omega⟩
   simp only [if_true,hm]
   by_cases hin : y.toNat ∈ s.d ∨ y.toNat ∈ s.c
   ·rw [if_pos hin,if_pos hin,if_pos hin]
    show vwB 0 (bput s.B _ _ _) = _
    rw [zbh9 _ _ ne]
   ·rw [if_neg hin,if_neg hin,if_neg hin]
theorem Coh.forget (hC : Coh s D) (x : Int) : Coh (s.forget x) D:=fun n hn => hC n (zi9.1 hn).1
theorem znx9 (hC : Coh s D) (x y : Int) : vwC (s.forget x) D y = updI (vwC s D) x (vwD D x) y:=by
 by_cases e : y = x
 ·subst e
  rw [zca9]
  refine zex9 (hC.forget y) ?_
  cases hk : kthere D.L.length y with
  | false => exact .inr rfl
  | true => exact .inl (fun h => (zi9.1 h).2 (zbe9 hk))
 ·rw [zcp9 _ _ e]
  unfold vwC CS.getE CS.getB
  cases hk : kthere D.L.length y with
  | false => rfl
  | true =>
   have hyy:=zbe9 hk
   have hm : (y.toNat ∈ (s.forget x).d ∨ y.toNat ∈ (s.forget x).c) ↔ (y.toNat ∈ s.d ∨ y.toNat ∈ s.c):=by
    show (_ ∈ kwo _ _ ∨ _ ∈ kwo _ _) ↔ _
    rw [zi9,zi9]
    constructor
    ·rintro (⟨h,_⟩ | ⟨h,_⟩)
     ·exact .inl h
     ·exact .inr h
    ·rintro (h | h)
     ·exact .inl ⟨h,by omega⟩
     ·exact .inr ⟨h,by omega⟩
   simp only [if_true,hm]
   rfl
end
end Go.Proofs.YtjhccpijpffahaaGreat
