import Derived.Test.YtjhccpijpffahaaGreatPTVw
import Derived.Test.YtjhccpijpffahaaGreatPKFlush
import Derived.Test.YtjhccpijpffahaaGreatPRow0
import Derived.Test.YtjhccpijpffahaaGreatPNRead
import Derived.Test.YtjhccpijpffahaaGreatPDDirty
set_option maxRecDepth 100000
set_option linter.unusedVariables false
set_option linter.unusedSimpArgs false
set_option maxHeartbeats 8000000
namespace Go.Proofs.YtjhccpijpffahaaGreat
open Go.RowKit Go.Maps
def gF (F : Int -> Bool) (i : Nat) : Option Value:=if F (i : Int) = true then some (.agg #[]) else none
theorem zeroT (w : World) : (zeroValue 121).run Tryz.prog w = .ok (.agg #[]) w:=by kernel_rfl
section
variable {w : World} {b n : Nat} {F : Int -> Bool}
theorem gF_has (hF : ∀ x,F x = true -> 0 <= x /\ x < n) (x : Int) : Maps.has (Dm n (gF F)) (Lit.int .i64 x) = F x:=by
 rw [Bool.eq_iff_iff,dm_has]
 constructor
 ·rintro ⟨i,v,hi,hg,e⟩
  simp only [Lit.int.injEq,true_and] at e
  subst e
  unfold gF at hg
  split at hg
  ·assumption
  ·cases hg
 ·intro h
  obtain ⟨h1,h2⟩:=hF x h
  obtain ⟨i,rfl⟩ : ∃ i : Nat,x = i:=⟨x.toNat,by omega⟩
  exact ⟨i,.agg #[],by omega,if_pos h,rfl⟩
theorem Mp.lookT (h : Mp w b n (gF F)) (hF : ∀ x,F x = true -> 0 <= x /\ x < n) {x : Int} (hx : (Lit.int .i64 x).wf = true) :
  (Instr.lookup 88 (.map (some b)) (.int .i64 x) true).run Tryz.prog w = .ok (.tuple #[.agg #[],.bool (F x)]) w:=by
 obtain ⟨v,ps,hr,hv⟩:=World.ownsMap.look_ok h keyed3 Tryz.underlying88 (zeroT w) (zd:=.held (.agg #[])) (zp:=[]) rfl (keyOf_int_mk Tryz.underlying3 hx)
 rw [hr,gF_has hF]
 congr 3
 cases e : F x with
 | false =>
  have h0 : Maps.has (Dm n (gF F)) (Lit.int .i64 x) = false:=by rw [gF_has hF,e]
  rw [atKey_of_not_has h0] at hv
  simp only [Rv,Option.some.injEq,Prod.mk.injEq,DataW.held.injEq] at hv
  rw [hv.1]
 | true =>
  obtain ⟨h1,h2⟩:=hF x e
  obtain ⟨i,rfl⟩ : ∃ i : Nat,x = i:=⟨x.toNat,by omega⟩
  rw [dm_at (v:=.agg #[]) (by omega) (if_pos e)] at hv
  simp only [Rv,Option.some.injEq,Prod.mk.injEq,DataW.held.injEq] at hv
  rw [hv.1]
theorem Mp.putT (h : Mp w b n (gF F)) {x : Int} (h0 : 0 <= x) (hi : x < n) (hn : n <= 65536) :
  ∃ w',(Instr.mapUpdate 88 (.map (some b)) (.int .i64 x) (.agg #[])).run Tryz.prog w = .ok () w' /\ Mp w' b n (gF (updI F x true)) /\ Tch (fun k => k = b) w w':=by
 obtain ⟨i,rfl⟩ : ∃ i : Nat,x = i:=⟨x.toNat,by omega⟩
 obtain ⟨w',hrun,r1,r2⟩:=World.ownsMap.update (val:=.agg #[]) (d:=.held (.agg #[])) (ps:=[]) h keyed3 Tryz.underlying88 (by unfold maxLen; omega) (key3 (i:=i) (by omega)) rfl
 refine ⟨w',hrun,(mp_of r1 (dm_put (by omega) _ (r1.canon keyed3))).congr (fun j hj => ?_),(Tch.of_grown r2).mono (fun k _ e => by cases e; rfl)⟩
 unfold gput gF updI
 by_cases e : j = i
 ·subst e; simp
 ·have e2 : ¬ ((j : Int) = (i : Int)):=by omega
  rw [if_neg e,if_neg e2]
theorem Mp.delT (h : Mp w b n (gF F)) {x : Int} (hx : (Lit.int .i64 x).wf = true) (ty : TypeId) :
  ∃ w',(Builtin.delete_ #[88,3] ty #[.map (some b),.int .i64 x]).run Tryz.prog w = .ok (.tuple #[]) w' /\ Mp w' b n (gF (updI F x false)) /\ Tch (fun k => k = b) w w':=by
 obtain ⟨w',hrun,r1,r2⟩:=World.ownsMap.drop h keyed3 Tryz.underlying88 (keyOf_int_mk Tryz.underlying3 hx) ty
 refine ⟨w',hrun,(mp_of r1 (zog9 (r1.canon keyed3))).congr (fun j hj => ?_),(Tch.of_grown r2.grown).mono (fun k _ e => by cases e; rfl)⟩
 unfold gdel gF updI
 by_cases e : (j : Int) = x
 ·rw [if_pos e,if_pos e]; simp
 ·rw [if_neg e,if_neg e]
end
theorem zok9 (x : Int) {xs : List Int} (h : By xs) : By (Go.Proofs.YtjhccpijpffahaaGreat.getB x xs).2:=by
 unfold Go.Proofs.YtjhccpijpffahaaGreat.getB
 split
 ·exact (h.dropN 8).take _
 ·exact fun i => by simp
structure TOk (N : Nat) (a : AS) (s : CS) (D : DS) : Prop where
 lo : a.A.lo = 50
 hi : 50 + a.A.L.length = N
 fr : ∀ x,a.F x = true -> 50 <= x /\ x < N
 v : a.V = vwC s D
 q : a.Q = vwD D
 co : Coh s D
structure TzAt (U : Nat -> Prop) (w : World) (t c d M N : Nat) (a : AS) (fb : Nat) (X S Y : Nat -> Prop) (s : CS) (D : DS) : Prop where
 box : w.heap[t]? = some (.cells #[cp c,mp M,.map (some fb)] 111 (0,0))
 cz : Cz X S w c d N s D
 pm : Pm w M a.A Y
 fm : Mp w fb N (gF a.F)
 xy : ∀ k,X k -> ¬ Y k
 sy : ∀ k,S k -> ¬ Y k
 nt : ¬ X t /\ ¬ S t /\ ¬ Y t
 nf : ¬ X fb /\ ¬ S fb /\ ¬ Y fb
 ux : ∀ k,(X k ∨ S k ∨ Y k ∨ k = t ∨ k = fb) -> U k
 ul : ∀ k,U k -> k < w.heap.size
 ok : TOk N a s D
def Tz (U : Nat -> Prop) (w : World) (t c d M N : Nat) (a : AS) : Prop:=∃ fb X S Y s D,TzAt U w t c d M N a fb X S Y s D
def TzTo (U : Nat -> Prop) (w w' : World) (t c d M N : Nat) (a : AS) : Prop:=∃ U',Tz U' w' t c d M N a /\ Tch U w w' /\ ∀ k,U' k -> U k ∨ w.heap.size <= k
section
variable {U X S Y : Nat -> Prop} {w w' : World} {t c d M N fb : Nat} {a a' : AS} {s s' : CS} {D D' : DS}
theorem TzAt.c0 (h : TzAt U w t c d M N a fb X S Y s D) : w.cell? ⟨t,0,none⟩ = some (cp c):=by rw [cell_of_row w t 0 _ _ (0,0) h.box]; rfl
theorem TzAt.c1 (h : TzAt U w t c d M N a fb X S Y s D) : w.cell? ⟨t,1,none⟩ = some (mp M):=by rw [cell_of_row w t 1 _ _ (0,0) h.box]; rfl
theorem TzAt.c2 (h : TzAt U w t c d M N a fb X S Y s D) : w.cell? ⟨t,2,none⟩ = some (.map (some fb)):=by rw [cell_of_row w t 2 _ _ (0,0) h.box]; rfl
theorem TzAt.lt (h : TzAt U w t c d M N a fb X S Y s D) : t < w.heap.size:=(Array.getElem?_eq_some_iff.1 h.box).1
theorem TzAt.ne (h : TzAt U w t c d M N a fb X S Y s D) : t ≠ fb:=fun e => h.fm.notCells (by rw [<- e]; exact h.box)
theorem TzAt.tch (h : TzAt U w t c d M N a fb X S Y s D) {R : Nat -> Prop} (ht : Tch R w w') (hn : ∀ k,U k -> ¬ R k) : TzAt U w' t c d M N a fb X S Y s D where
 box:=by rw [ht.block t h.lt (hn t (h.ux t (.inr (.inr (.inr (.inl rfl))))))]; exact h.box
 cz:=h.cz.tch ht (fun k hk => hn k (h.ux k (.inl hk))) (fun k hk => hn k (h.ux k (.inr (.inl hk))))
 pm:=h.pm.tch ht (fun k hk => hn k (h.ux k (.inr (.inr (.inl hk)))))
 fm:=h.fm.tch ht (hn fb (h.ux fb (.inr (.inr (.inr (.inr rfl))))))
 xy:=h.xy
 sy:=h.sy
 nt:=h.nt
 nf:=h.nf
 ux:=h.ux
 ul:=fun k hk => zn1 (h.ul k hk) ht.size
 ok:=h.ok
theorem Tz.tch (h : Tz U w t c d M N a) {R : Nat -> Prop} (ht : Tch R w w') (hn : ∀ k,U k -> ¬ R k) : Tz U w' t c d M N a:=by
 obtain ⟨fb,X,S,Y,s,D,h⟩:=h
 exact ⟨fb,X,S,Y,s,D,h.tch ht hn⟩
theorem Tz.below (h : Tz U w t c d M N a) (hb : Below w.heap.size w w') : Tz U w' t c d M N a:=h.tch (R:=fun _ => False) (Tch.of_below hb) (fun _ _ e => e)
theorem Tz.ul (h : Tz U w t c d M N a) : ∀ k,U k -> k < w.heap.size:=by obtain ⟨_,_,_,_,_,_,h⟩:=h; exact h.ul
theorem Tz.c0 (h : Tz U w t c d M N a) : w.cell? ⟨t,0,none⟩ = some (cp c):=by obtain ⟨_,_,_,_,_,_,h⟩:=h; exact h.c0
theorem Tz.c1 (h : Tz U w t c d M N a) : w.cell? ⟨t,1,none⟩ = some (mp M):=by obtain ⟨_,_,_,_,_,_,h⟩:=h; exact h.c1
theorem Tz.map (h : Tz U w t c d M N a) : ∃ fb,w.cell? ⟨t,2,none⟩ = some (.map (some fb)) /\ Mp w fb N (gF a.F) /\ U fb:=by obtain ⟨fb,_,_,_,_,_,h⟩:=h; exact ⟨fb,h.c2,h.fm,h.ux fb (.inr (.inr (.inr (.inr rfl))))⟩
theorem Tz.fr (h : Tz U w t c d M N a) : ∀ x,a.F x = true -> 50 <= x /\ x < (N : Int):=by obtain ⟨_,_,_,_,_,_,h⟩:=h; exact h.ok.fr
theorem Tz.n2 (h : Tz U w t c d M N a) : N <= 4096:=by obtain ⟨_,_,_,_,_,_,h⟩:=h; exact h.cz.ch.n2
theorem Tz.lo (h : Tz U w t c d M N a) : a.A.lo = 50 /\ 50 + a.A.L.length = N:=by obtain ⟨_,_,_,_,_,_,h⟩:=h; exact ⟨h.ok.lo,h.ok.hi⟩
theorem Tz.to (h : Tz U w t c d M N a) : TzTo U w w t c d M N a:=⟨U,h,Tch.refl _ _,fun _ e => .inl e⟩
theorem Tz.to_below (h : Tz U w t c d M N a) (hb : Below w.heap.size w w') : TzTo U w w' t c d M N a:=⟨U,h.below hb,Tch.of_below hb,fun _ e => .inl e⟩
theorem TzTo.below {w'' : World} (h : TzTo U w w' t c d M N a) (hb : Below w'.heap.size w' w'') : TzTo U w w'' t c d M N a:=by
 obtain ⟨U',h1,h2,h3⟩:=h
 exact ⟨U',h1.below hb,h2.trans (Tch.of_below (S:=U) hb) (fun _ _ e => e),h3⟩
theorem TzTo.after {U0 : Nat -> Prop} {w0 : World} (ht : Tch U0 w0 w) (hx : ∀ k,U k -> U0 k ∨ w0.heap.size <= k) (h : TzTo U w w' t c d M N a) : TzTo U0 w0 w' t c d M N a:=by
 obtain ⟨U',h1,h2,h3⟩:=h
 refine ⟨U',h1,ht.trans h2 (fun k hk e => ?_),fun k hk => ?_⟩
 ·rcases hx k e with e | e
  ·exact e
  ·omega
 ·rcases h3 k hk with e | e
  ·exact hx k e
  ·exact .inr (zn2 ht.size e)
theorem TzAt.czTo (h : TzAt U w t c d M N a fb X S Y s D) (hc : CzTo X S w w' c d N s' D') (ho : TOk N a' s' D') (hA : a'.A = a.A) (hF : a'.F = a.F) :
  ∃ U',Tz U' w' t c d M N a' /\ Tch U w w' /\ (∀ k,U' k -> U k ∨ w.heap.size <= k):=by
 obtain ⟨X',S',h1,h2,h3,h4⟩:=hc
 have hU : ∀ k,X k ∨ S k -> U k:=fun k hk => h.ux k (hk.elim .inl (fun e => .inr (.inl e)))
 have hlt:=h.ul
 have hsz:=h2.size
 have nX : ∀ k,k < w.heap.size -> ¬ X k -> ¬ X' k:=fun k hk hn e => (h3 k e).elim hn (fun e => by omega)
 have nS : ∀ k,k < w.heap.size -> ¬ S k -> ¬ S' k:=fun k hk hn e => (h4 k e).elim hn (fun e => by omega)
 have hY : ∀ k,Y k -> k < w.heap.size:=fun k hk => hlt k (h.ux k (.inr (.inr (.inl hk))))
 have hfl : fb < w.heap.size:=h.fm.lt
 refine ⟨fun k => U k ∨ X' k ∨ S' k,⟨fb,X',S',Y,s',D',?_⟩,h2.mono (fun k _ e => hU k e),fun k hk => ?_⟩
 ·exact {
   box:=by rw [h2.block t h.lt (fun e => e.elim h.nt.1 h.nt.2.1)]; exact h.box
   cz:=h1
   pm:=by rw [hA]; exact h.pm.tch h2 (fun k hk e => e.elim (fun e => h.xy k e hk) (fun e => h.sy k e hk))
   fm:=by rw [hF]; exact h.fm.tch h2 (fun e => e.elim h.nf.1 h.nf.2.1)
   xy:=fun k hk hy => nX k (hY k hy) (fun e => h.xy k e hy) hk
   sy:=fun k hk hy => nS k (hY k hy) (fun e => h.sy k e hy) hk
   nt:=⟨nX t h.lt h.nt.1,nS t h.lt h.nt.2.1,h.nt.2.2⟩
   nf:=⟨nX fb hfl h.nf.1,nS fb hfl h.nf.2.1,h.nf.2.2⟩
   ux:=fun k hk => by
    rcases hk with e | e | e | e | e
    ·exact .inr (.inl e)
    ·exact .inr (.inr e)
    ·exact .inl (h.ux k (.inr (.inr (.inl e))))
    ·exact .inl (h.ux k (.inr (.inr (.inr (.inl e)))))
    ·exact .inl (h.ux k (.inr (.inr (.inr (.inr e)))))
   ul:=fun k hk => by
    rcases hk with e | e | e
    ·exact zn1 (hlt k e) hsz
    ·exact h1.ch.lt k e
    ·exact h1.dk.slt k e
   ok:=ho }
 ·rcases hk with e | e | e
  ·exact .inl e
  ·exact (h3 k e).imp (fun e => hU k (.inl e)) id
  ·exact (h4 k e).imp (fun e => hU k (.inr e)) id
theorem TzAt.pmTo (h : TzAt U w t c d M N a fb X S Y s D) {A' : Ah.St} (hp : Pm w' M A' (ext w w' Y)) (ht : Tch Y w w') (hlo : A'.lo = a.A.lo) (hl : A'.L.length = a.A.L.length) : TzTo U w w' t c d M N { a with A:=A' }:=by
 have hU : ∀ k,Y k -> U k:=fun k hk => h.ux k (.inr (.inr (.inl hk)))
 have hlt:=h.ul
 have hsz:=ht.size
 have hX : ∀ k,X k -> k < w.heap.size:=fun k hk => hlt k (h.ux k (.inl hk))
 have hS : ∀ k,S k -> k < w.heap.size:=fun k hk => hlt k (h.ux k (.inr (.inl hk)))
 have hfl : fb < w.heap.size:=h.fm.lt
 have nE : ∀ k,k < w.heap.size -> ¬ Y k -> ¬ ext w w' Y k:=fun k hk hn e => e.elim hn (fun e => by omega)
 refine ⟨fun k => U k ∨ ext w w' Y k,⟨fb,X,S,ext w w' Y,s,D,?_⟩,ht.mono (fun k _ e => hU k e),fun k hk => ?_⟩
 ·exact {
   box:=by rw [ht.block t h.lt h.nt.2.2]; exact h.box
   cz:=h.cz.tch ht (fun k hk e => h.xy k hk e) (fun k hk e => h.sy k hk e)
   pm:=hp
   fm:=h.fm.tch ht h.nf.2.2
   xy:=fun k hk => nE k (hX k hk) (h.xy k hk)
   sy:=fun k hk => nE k (hS k hk) (h.sy k hk)
   nt:=⟨h.nt.1,h.nt.2.1,nE t h.lt h.nt.2.2⟩
   nf:=⟨h.nf.1,h.nf.2.1,nE fb hfl h.nf.2.2⟩
   ux:=fun k hk => by
    rcases hk with e | e | e | e | e
    ·exact .inl (h.ux k (.inl e))
    ·exact .inl (h.ux k (.inr (.inl e)))
    ·exact .inr e
    ·exact .inl (h.ux k (.inr (.inr (.inr (.inl e)))))
    ·exact .inl (h.ux k (.inr (.inr (.inr (.inr e)))))
   ul:=fun k hk => hk.elim (fun e => zn1 (hlt k e) hsz) (fun e => hp.lt k e)
   ok:=⟨hlo.trans h.ok.lo,by show 50 + A'.L.length = N; rw [hl]; exact h.ok.hi,h.ok.fr,h.ok.v,h.ok.q,h.ok.co⟩ }
 ·exact hk.elim .inl (fun e => e.imp (hU k) (fun e => e.1))
theorem TzAt.fmTo (h : TzAt U w t c d M N a fb X S Y s D) {F' : Int -> Bool} (hm : Mp w' fb N (gF F')) (ht : Tch (fun k => k = fb) w w') (hF : ∀ x,F' x = true -> 50 <= x /\ x < N) : Tz U w' t c d M N { a with F:=F' } /\ Tch U w w':=by
 have hU : U fb:=h.ux fb (.inr (.inr (.inr (.inr rfl))))
 refine ⟨⟨fb,X,S,Y,s,D,?_⟩,ht.mono (fun k _ e => by rw [e]; exact hU)⟩
 exact {
   box:=by rw [ht.block t h.lt h.ne]; exact h.box
   cz:=h.cz.tch ht (fun k hk e => h.nf.1 (by rw [<- e]; exact hk)) (fun k hk e => h.nf.2.1 (by rw [<- e]; exact hk))
   pm:=h.pm.tch ht (fun k hk e => h.nf.2.2 (by rw [<- e]; exact hk))
   fm:=hm
   xy:=h.xy
   sy:=h.sy
   nt:=h.nt
   nf:=h.nf
   ux:=h.ux
   ul:=fun k hk => zn1 (h.ul k hk) ht.size
   ok:=⟨h.ok.lo,h.ok.hi,hF,h.ok.v,h.ok.q,h.ok.co⟩ }
theorem putL (s : Ah.St) (i : Nat) (y : Int) : (Ah.put s i y).lo = s.lo /\ (Ah.put s i y).L.length = s.L.length:=⟨rfl,by simp [Ah.put]⟩
theorem takeL (s : Ah.St) : (Ah.take s).2.2.lo = s.lo /\ (Ah.take s).2.2.L.length = s.L.length:=by
 unfold Ah.take
 split <;> simp
theorem backL (x : Int) (s : Ah.St) : (Ah.back x s).2.lo = s.lo /\ (Ah.back x s).2.L.length = s.L.length:=by
 unfold Ah.back
 split
 ·exact ⟨rfl,rfl⟩
 ·exact putL _ _ _
theorem takeIn {s : Ah.St} (h : (Ah.take s).2.1 = true) : (s.lo : Int) <= (Ah.take s).1 /\ (Ah.take s).1 < s.lo + s.L.length:=by
 unfold Ah.take at *
 split at h
 ·cases h
 ·rename_i hc
  have:=(Ah.first0 hc).1
  rw [if_neg hc]
  simp only
  omega
theorem tzTake (w : World) (H : Tz U w t c d M N a) :
  Calls Tryz.prog 145 #[mp M] w fun e w' => e = .returned (.tuple #[.int .i64 (Ah.take a.A).1,.bool (Ah.take a.A).2.1]) /\ TzTo U w w' t c d M N { a with A:=(Ah.take a.A).2.2 }:=by
 obtain ⟨fb,X,S,Y,s,D,h⟩:=H
 refine (zrl9 M a.A Y w h.pm).mono ?_
 rintro e w' ⟨rfl,h1,h2⟩
 exact ⟨rfl,h.pmTo h1 h2 (takeL _).1 (takeL _).2⟩
theorem tzBack (x : Int) (w : World) (H : Tz U w t c d M N a) :
  Calls Tryz.prog 75 #[mp M,.int .i64 x] w fun e w' => e = .returned (.bool (Ah.back x a.A).1) /\ TzTo U w w' t c d M N { a with A:=(Ah.back x a.A).2 }:=by
 obtain ⟨fb,X,S,Y,s,D,h⟩:=H
 refine (zpm9 M a.A Y x w h.pm).mono ?_
 rintro e w' ⟨rfl,h1,h2⟩
 exact ⟨rfl,h.pmTo h1 h2 (backL _ _).1 (backL _ _).2⟩
theorem tzFree (w : World) (H : Tz U w t c d M N a) :
  Calls Tryz.prog 21 #[mp M] w fun e w' => e = .returned (.int .i64 (Ah.fre a.A)) /\ ∃ q,w' = w.drewN q:=by
 obtain ⟨fb,X,S,Y,s,D,h⟩:=H
 exact zpx9 M a.A Y w h.pm
theorem zrm9 (x : Int) (hx : (Lit.int .i64 x).wf = true) (w : World) (H : Tz U w t c d M N a) :
  Calls Tryz.prog 76 #[cp c,.int .i64 x] w fun e w' => e = .returned (.tuple #[]) /\ TzTo U w w' t c d M N { a with V:=updI a.V x (a.Q x) }:=by
 obtain ⟨fb,X,S,Y,s,D,h⟩:=H
 refine (zju9 x w h.cz.ch hx).mono ?_
 rintro e w' ⟨rfl,h1⟩
 exact ⟨rfl,h.czTo (h.cz.chTo h1) ⟨h.ok.lo,h.ok.hi,h.ok.fr,by funext y; show updI a.V x (a.Q x) y = _; rw [znx9 h.ok.co,h.ok.v,h.ok.q],h.ok.q,h.ok.co.forget x⟩ rfl rfl⟩
theorem tzGet (x : Int) (w : World) (H : Tz U w t c d M N a) :
  Calls Tryz.prog 47 #[cp c,.int .i64 x] w fun e w' => ∃ u kd ys ec,e = .returned (.tuple #[blk kd u,.int .i64 ec]) /\ a.V x = vwB ec (kd,ys) /\ By ys /\ Nw w.heap.size w' u ys ∧
   ∃ U',Tz U' w' t c d M N a /\ Tch U w w' /\ ∀ k,U' k -> U k ∨ w.heap.size <= k:=by
 obtain ⟨fb,X,S,Y,s,D,h⟩:=H
 have hN:=h.cz.len
 refine (zpz9 x w h.cz.ch h.cz.dk h.cz.len).mono ?_
 rintro e w' ⟨u,rfl,hn,X',h1,h2,h3,h4⟩
 refine ⟨u,_,_,_,rfl,by rw [h.ok.v]; rfl,?_,hn,h.czTo (h.cz.chTo ⟨X',h1,h2,h3⟩) ⟨h.ok.lo,h.ok.hi,h.ok.fr,by funext y; rw [vw_get h.ok.co,h.ok.v],h.ok.q,h.ok.co.get x⟩ rfl rfl⟩
 unfold CS.getB
 cases hk : kthere D.L.length x with
 | false => exact fun i => by simp
 | true =>
  have hx:=zo9.1 hk
  simp only [if_true]
  split
  ·rename_i hm
   exact (h.cz.ch.ok.may _ hm).2
  ·exact zok9 x (h.cz.dk.has_ok (by omega)).2
theorem tzPut (x : Int) (n : Nd) (v : Value) (w : World) (H : Tz U w t c d M N a) (hx : 50 <= x /\ x < (N : Int)) (hm : mayN n = true) (hR : Rl n) (hr : Rd .u8 w v (encN n n.ks.length)) (hv : ∀ j,v.ownBlock = some j -> ¬ U j) :
  Calls Tryz.prog 27 #[cp c,.int .i64 x,blk (kdN n.lf) v] w fun e w' => e = .returned (.int .i64 0) /\ TzTo U w w' t c d M N { a with V:=updI a.V x (0,n) }:=by
 obtain ⟨fb,X,S,Y,s,D,h⟩:=H
 have hN:=h.cz.len
 have hn2:=h.cz.ch.n2
 have h0 : s.putE N x (kdN n.lf) (encN n n.ks.length) = 0:=by
  unfold CS.putE
  rw [if_pos (zo9.2 hx),if_pos]
  unfold mayK
  have:=enc_le hR (zn6 _)
  have hk : kdN n.lf = 1 ∨ kdN n.lf = 2:=by cases n.lf <;> simp [kdN]
  simp only [decide_eq_true_eq]
  refine ⟨by omega,by omega,by omega,by omega,this⟩
 refine (zqy9 x (kdN n.lf) v _ w h.cz.ch h.cz.dk h.cz.len hr (enc_by hR _ (zn6 _)) (fun j hj _ e => hv j hj (h.ux j (.inl e)))).mono ?_
 rintro e w' ⟨rfl,h1⟩
 rw [h0]
 refine ⟨rfl,h.czTo (h.cz.chTo h1) ⟨h.ok.lo,h.ok.hi,h.ok.fr,?_,h.ok.q,h.ok.co.put _ _ _⟩ rfl rfl⟩
 rw [<- hN] at h0 ⊢
 funext y
 rw [vw_put h.ok.co _ _ _ h0,vwB_ok (zsi9 hm hR)]
 show updI a.V x (0,n) y = _
 rw [h.ok.v]
end
end Go.Proofs.YtjhccpijpffahaaGreat
namespace Go.Proofs.YtjhccpijpffahaaGreat
open Go.RowKit Go.Maps Pl
abbrev tp (t : Nat) : Value:=.pointer (some ⟨t,0,none⟩)
def TzU (U : Nat -> Prop) (w w' : World) (t c d M N : Nat) (a : AS) (v1 v2 v3 : Value) : Prop:=
 ∃ U',Tz U' w' t c d M N a /\ Tch U w w' /\ (∀ k,U' k -> U k ∨ w.heap.size <= k) /\ ∀ j,(v1.ownBlock = some j ∨ v2.ownBlock = some j ∨ v3.ownBlock = some j) -> ¬ U' j
theorem zgd9 (B : Nat) (w : World) : Ow3 B w noneN (.slice none 0 0) (.slice none 0 0) (.slice none 0 0):=⟨zal9 _ _ _,zal9 _ _ _,zal9 _ _ _,fun j e => by cases e⟩
def ReadT (U : Nat -> Prop) (w : World) (t c d M N : Nat) (a : AS) (r : Int × Nd) (e : Ending) (w' : World) : Prop:=
 ∃ v1 v2 v3,e = .returned (.tuple #[nod r.2.lf v1 v2 v3,.int .i64 r.1]) /\ Ow3 w.heap.size w' r.2 v1 v2 v3 /\ TzU U w w' t c d M N a v1 v2 v3
theorem zhp9 {U : Nat -> Prop} {t c d M N : Nat} {a : AS} (x : Int) (lv : Nat) (w : World) (H : Tz U w t c d M N a) :
  Calls Tryz.prog 106 #[tp t,.int .i64 x,.int .i64 (lv : Int)] w fun e w' => ReadT U w t c d M N a (look a x lv) e w':=by
 have HT:=hideN H
 obtain ⟨W1,hW1⟩:=exN (w.alloc (.cells #[.bool false,.slice none 0 0,.slice none 0 0,.slice none 0 0] 93))
 have b1 : Below w.heap.size w W1:=by rw [<- hW1]; exact za9 _ _
 have B1:=hideN b1
 have s1 : Hid (W1.heap.size = w.heap.size + 1):=by show _ = _; rw [<- hW1]; simp
 have X1 : Hid (Nb W1 93 w.heap.size false (.slice none 0 0) (.slice none 0 0) (.slice none 0 0)):=by rw [<- hW1]; exact nb_new _ _ _ _ _ _
 have T1 : Hid (Tz U W1 t c d M N a):=H.below b1
 have HUL:=hideN H.ul
 have c0:=T1.out.c0
 -- what is told when there is none
 have HBAD : Hid (∀ (W : World) (ec : Int) (U' : Nat -> Prop),look a x lv = (ec,noneN) -> Below W1.heap.size W W -> Nb W 93 w.heap.size false (.slice none 0 0) (.slice none 0 0) (.slice none 0 0) -> Tz U' W t c d M N a -> Tch U w W -> (∀ k,U' k -> U k ∨ W1.heap.size <= k) →
   ∃ WA,((((W.setCell ⟨w.heap.size,0,none⟩ (.bool false)).setCell ⟨w.heap.size,1,none⟩ (.slice none 0 0)).setCell ⟨w.heap.size,2,none⟩ (.slice none 0 0)).setCell ⟨w.heap.size,3,none⟩ (.slice none 0 0) = WA) /\ Nb WA 93 w.heap.size false (.slice none 0 0) (.slice none 0 0) (.slice none 0 0) /\ ReadT U w t c d M N a (look a x lv) (.returned (.tuple #[nod false (.slice none 0 0) (.slice none 0 0) (.slice none 0 0),.int .i64 ec])) WA):=fun W ec U' hl _ hx hT htc hU => by
  have tt:=zg9 W w.heap.size (.bool false) (.slice none 0 0) (.slice none 0 0) (.slice none 0 0)
  have hn : ∀ k,U' k -> k ≠ w.heap.size:=fun k hk e => by
   rcases hU k hk with q | q
   ·have:=HUL.out k q; omega
   ·have:=s1.out; omega
  refine ⟨_,rfl,hx.all _ _ _ _,?_⟩
  rw [hl]
  refine ⟨_,_,_,rfl,zgd9 _ _,U',hT.tch tt hn,htc.trans tt (fun k hk e => by omega),fun k hk => (hU k hk).imp id (fun e => by have:=s1.out; omega),fun j hj => ?_⟩
  rcases hj with e | e | e <;> cases e
 clear H b1
 by_cases h16 : 16 < lv
 ·have g1 : decide ((lv : Int) > 16) = true:=by rw [decide_eq_true_iff]; omega
  have g2 : decide ((16 : Int) < (lv : Int)) = true:=by rw [decide_eq_true_iff]; omega
  have g3 : decide (16 < lv) = true:=by rw [decide_eq_true_iff]; omega
  have HL : Hid (look a x lv = (7,noneN)):=if_pos h16
  obtain ⟨WA,hWA,hx,hf⟩:=HBAD.out W1 7 U HL.out (Below.refl _ _) X1.out T1.out (Tch.of_below B1.out) (fun k hk => .inl hk)
  have HX:=hideN hx
  have HF:=hideN hf
  have HWA:=hideN hWA
  have q0:=X1.out.c0
  have q1:=X1.out.c1
  have q2:=X1.out.c2
  have q3:=X1.out.c3
  have f0:=X1.out.fz 0
  have f1:=X1.out.fz 1
  have f2:=X1.out.fz 2
  have f3:=X1.out.fz 3
  clear hWA hx hf HBAD h16
  go_enter Tryz.func106,Tryz.ntmps106
  go_wp2_with fail
  rw [HWA.out]
  refine bodyPost_ret (v:=.tuple #[nod false (.slice none 0 0) (.slice none 0 0) (.slice none 0 0),.int .i64 7]) (ze9 (p:=6) (ty:=93) rfl _ _ _ w.heap.size _ _ rfl HX.out.load rfl) rfl ?_
  exact HF.out
 ·have g1 : decide ((lv : Int) > 16) = false:=by rw [zn4]; omega
  have g2 : decide ((16 : Int) < (lv : Int)) = false:=by rw [zn4]; omega
  have g3 : decide (16 < lv) = false:=by rw [zn4]; omega
  have HL : Hid (look a x lv = a.V x):=if_neg h16
  have HG:=hideN (tzGet x W1 T1.out)
  clear h16
  go_enter Tryz.func106,Tryz.ntmps106
  go_wp2_with fail
  refine HG.out.mono ?_
  rintro e w3 ⟨u,kd,ys,ec,rfl,hV,hby,hnw,U',hT3,ht3,hU3⟩
  obtain ⟨ua,um,uc,rfl⟩ : ∃ a m cap,u = .slice a m cap:=by obtain ⟨a,c,e,_⟩:=hnw.rd; exact ⟨_,_,_,e⟩
  have HV:=hideN hV
  have HY:=hideN hby
  have HT3:=hideN hT3
  have HU3:=hideN hU3
  have htw : Tch U w w3:=(Tch.of_below (S:=U) B1.out).trans ht3 (fun k hk e => e)
  obtain ⟨W4,hW4⟩:=exN (w3.alloc (.cells #[.int .i64 kd,.slice ua um uc] 63))
  have b4 : Below w3.heap.size w3 W4:=by rw [<- hW4]; exact za9 _ _
  have K4 : Hid (Kb W4 w3.heap.size kd (.slice ua um uc)):=by rw [<- hW4]; exact kb_new _ _ _
  have X4 : Hid (Nb W4 93 w.heap.size false (.slice none 0 0) (.slice none 0 0) (.slice none 0 0)):=(X1.out.tch ht3 (fun e => by have:=HUL.out _ e; omega)).below b4
  have T4 : Hid (Tz U' W4 t c d M N a):=hT3.below b4
  have HT4 : Hid (Tch U w W4):=htw.trans (Tch.of_below (S:=U) b4) (fun _ _ e => e)
  have R4 : Hid (Rd .u8 W4 (.slice ua um uc) ys):=hnw.rd.below b4
  have S4 : Hid (W1.heap.size <= W4.heap.size):=zn2 ht3.size b4.size
  clear hV hby hnw hT3 ht3 hU3 htw b4 HG c0 HT3
  unfold blk
  by_cases hec : ec = 0
  ·subst hec
   have HN:=hideN (zqd9 kd _ ys W4 R4.out HY.out)
   unfold blN at HN
   have k0:=K4.out.c0
   have k1:=K4.out.c1
   go_wp2_with fail
   refine HN.out.mono ?_
   rintro e w5 ⟨hr,b5⟩
   have X5:=X4.out.below b5
   have s0:=X5.c0
   have s1':=X5.c1
   have s2:=X5.c2
   have s3:=X5.c3
   have f0:=X5.fz 0
   have f1:=X5.fz 1
   have f2:=X5.fz 2
   have f3:=X5.fz 3
   have HT5 : Hid (Tch U w w5):=HT4.out.trans (Tch.of_below (S:=U) b5) (fun _ _ e => e)
   have T5 : Hid (Tz U' w5 t c d M N a):=T4.out.below b5
   rcases hr with ⟨n,v1,v2,v3,hg,rfl,ho⟩ | ⟨hg,rfl⟩
   ·have HLV : Hid (look a x lv = (0,n)):=by show _ = _; rw [HL.out,HV.out]; exact vwB_ok hg
    obtain ⟨a1,c1,a2,c2,a3,c3,rfl,rfl,rfl,_,_,_,_⟩:=ho.nn.out
    obtain ⟨L1,hL1⟩:=exH n.ks.length
    obtain ⟨L2,hL2⟩:=exH n.vs.length
    obtain ⟨L3,hL3⟩:=exH n.kd.length
    rw [hL1.out,hL2.out,hL3.out] at ho
    rw [hL1.out,hL2.out,hL3.out]
    obtain ⟨lf,hlf⟩:=exH n.lf
    rw [hlf.out]
    obtain ⟨WA,hWA⟩:=exH ((((w5.setCell ⟨w.heap.size,0,none⟩ (.bool lf)).setCell ⟨w.heap.size,1,none⟩ (.slice a1 L1 c1)).setCell ⟨w.heap.size,2,none⟩ (.slice a2 L2 c2)).setCell ⟨w.heap.size,3,none⟩ (.slice a3 L3 c3))
    have YA : Hid (Nb WA 93 w.heap.size lf (.slice a1 L1 c1) (.slice a2 L2 c2) (.slice a3 L3 c3)):=by rw [<- hWA.out]; exact X5.all _ _ _ _
    have tA : Tch (fun j => j = w.heap.size) w5 WA:=by rw [<- hWA.out]; exact zg9 _ _ _ _ _ _
    have hsz:=s1.out
    have hs4:=S4.out
    have hFR:=ho.fr
    have HF : Hid (ReadT U w t c d M N a (look a x lv) (.returned (.tuple #[nod lf (.slice a1 L1 c1) (.slice a2 L2 c2) (.slice a3 L3 c3),.int .i64 0])) WA):=by
     show ReadT _ _ _ _ _ _ _ _ _ _ _
     rw [HLV.out]
     refine ⟨_,_,_,by rw [hlf.out],(ho.tch tA (fun j hj e => by have:=hFR j hj; omega)).less (by omega),U',T5.out.tch tA (fun k hk e => ?_),HT5.out.trans tA (fun k hk e => by omega),fun k hk => (HU3.out k hk).imp id (fun e => by omega),fun j hj e => ?_⟩
     ·rcases HU3.out k hk with q | q
      ·have:=HUL.out k q; omega
      ·omega
     ·have:=hFR j hj; have:=T4.out.ul j e; omega
    clear hg ho tA hsz hs4 hFR X5 b5 k0 k1 HN hW1 hW4 HBAD
    unfold nod
    go_wp2_with fail
    rw [hWA.out]
    refine bodyPost_ret (v:=.tuple #[nod lf (.slice a1 L1 c1) (.slice a2 L2 c2) (.slice a3 L3 c3),.int .i64 0]) (ze9 (p:=6) (ty:=93) rfl _ _ _ w.heap.size _ _ rfl YA.out.load rfl) rfl ?_
    exact HF.out
   ·have HLV : Hid (look a x lv = (7,noneN)):=by show _ = _; rw [HL.out,HV.out]; exact vwB_no hg
    obtain ⟨WA,hWA,hx,hf⟩:=HBAD.out w5 7 U' HLV.out (Below.refl _ _) X5 T5.out HT5.out HU3.out
    have HX:=hideN hx
    have HF:=hideN hf
    have HWA:=hideN hWA
    clear hWA hx hf HBAD X5 b5 k0 k1 HN hW1 hW4 hg
    unfold nod
    go_wp2_with fail
    rw [HWA.out]
    refine bodyPost_ret (v:=.tuple #[nod false (.slice none 0 0) (.slice none 0 0) (.slice none 0 0),.int .i64 7]) (ze9 (p:=6) (ty:=93) rfl _ _ _ w.heap.size _ _ rfl HX.out.load rfl) rfl ?_
    exact HF.out
  ·have HLV : Hid (look a x lv = (ec,noneN)):=by show _ = _; rw [HL.out,HV.out]; exact zmd9 hec _
   have hE1 : (ec == 0) = false:=by rw [beq_eq_false_iff_ne]; exact hec
   have hE2 : (ec != 0) = true:=by rw [bne,hE1]; rfl
   obtain ⟨WA,hWA,hx,hf⟩:=HBAD.out W4 ec U' HLV.out (Below.refl _ _) X4.out T4.out HT4.out HU3.out
   have HX:=hideN hx
   have HF:=hideN hf
   have HWA:=hideN hWA
   have s0:=X4.out.c0
   have s1':=X4.out.c1
   have s2:=X4.out.c2
   have s3:=X4.out.c3
   have f0:=X4.out.fz 0
   have f1:=X4.out.fz 1
   have f2:=X4.out.fz 2
   have f3:=X4.out.fz 3
   clear hWA hx hf HBAD hec hW1
   go_wp2_with fail
   rw [HWA.out]
   refine bodyPost_ret (v:=.tuple #[nod false (.slice none 0 0) (.slice none 0 0) (.slice none 0 0),.int .i64 ec]) (ze9 (p:=6) (ty:=93) rfl _ _ _ w.heap.size _ _ rfl HX.out.load rfl) rfl ?_
   exact HF.out
end Go.Proofs.YtjhccpijpffahaaGreat
namespace Go.Proofs.YtjhccpijpffahaaGreat
open Go.RowKit Go.Maps Go.Sort Go.Shelf Pl
section
variable {ops : Array Oper} {rest : List Oper} {o : Oper} {a : Act} {w : World} {Q : Exit -> Act -> World -> Prop}
theorem zec9 (hgd : o.guard = none) (m x v : Operand) (ho : o.op = Op.mapUpdate 88 m x v) (fb n : Nat) (F : Int -> Bool) (z : Int) (hm : a.eval m = .map (some fb)) (hx : a.eval x = .int .i64 z) (hv : a.eval v = .agg #[]) (hM : Mp w fb n (gF F)) (h0 : 0 <= z) (hz : z < n) (hn : n <= 65536)
  (h : ∀ w',Mp w' fb n (gF (updI F z true)) -> Tch (fun k => k = fb) w w' -> wpList Tryz.prog ops Q rest (a.put o.dst undef) w') : wpList Tryz.prog ops Q (o :: rest) a w:=by
 obtain ⟨w',hr,h1,h2⟩:=hM.putT h0 hz hn
 refine wpList_plain hgd fun K hK => ?_
 unfold Oper.wp
 simp [execOp,ho,hm,hx,hv,hr,Result.andThen]
 exact hK _ _ (h w' h1 h2)
theorem zix9 (hgd : o.guard = none) (m x : Operand) (ho : o.op = .call { callee:=.builtin .delete,args:=#[m,x],argTypes:=#[88,3] }) (fb n : Nat) (F : Int -> Bool) (z : Int) (hm : a.eval m = .map (some fb)) (hx : a.eval x = .int .i64 z) (hM : Mp w fb n (gF F)) (hz : (Lit.int .i64 z).wf = true)
  (h : ∀ w',Mp w' fb n (gF (updI F z false)) -> Tch (fun k => k = fb) w w' -> wpList Tryz.prog ops Q rest (a.put o.dst (.tuple #[])) w') : wpList Tryz.prog ops Q (o :: rest) a w:=by
 obtain ⟨w',hr,h1,h2⟩:=hM.delT hz o.type
 refine wpList_plain hgd fun K hK => ?_
 unfold Oper.wp
 simp [execOp,ho,resolve,invoke,builtin,hm,hx,hr,Result.andThen]
 exact hK _ _ (h w' h1 h2)
end
section
variable {U : Nat -> Prop} {t c d M N : Nat} {a : AS}
theorem zmv9 (x : Int) (hx : (Lit.int .i64 x).wf = true) (w : World) (H : Tz U w t c d M N a) :
  Calls Tryz.prog 178 #[tp t,.int .i64 x] w fun e w' => e = .returned (.bool (a.F x)) /\ Below w.heap.size w w':=by
 obtain ⟨fb,c2,hm,_⟩:=H.map
 have LK:=hm.lookT (fun y hy => by have:=H.fr y hy; omega) hx
 obtain ⟨f,hf⟩:=exH (a.F x)
 rw [hf.out] at LK ⊢
 clear H hm hx
 go_enter Tryz.func178,Tryz.ntmps178
 go_wp2_with fail
 go_ret
 exact ⟨rfl,za9 _ _⟩
theorem ztf9 (c M N : Nat) (w : World) : Calls Tryz.prog 30 #[cp c,mp M] w fun e w' => ∃ t fb,e = .returned (.tuple #[tp t,.int .i64 0]) /\ w'.heap[t]? = some (.cells #[cp c,mp M,.map (some fb)] 111 (0,0)) /\ Mp w' fb N (gF (fun _ => false)) /\ w.heap.size <= t /\ w.heap.size <= fb /\ Below w.heap.size w w':=by
 have hmm:=@run_makeMap Tryz.prog
 go_enter Tryz.func30,Tryz.ntmps30
 go_wp2_with fail
 go_ret2
 have M1 : Mp (w.alloc (.map #[] 0)) w.heap.size N (fun _ => none):=mp_of (World.ownsMap_made w _ _ _) (by rw [zeh9 (fun _ _ => rfl)])
 have hsz : (w.alloc (.map #[] 0)).heap.size = w.heap.size + 1:=by simp
 refine ⟨w.heap.size + 1,w.heap.size,by first | rfl | simp,by rw [<- hsz]; exact heap_alloc_new _ _,?_,by omega,zn6 _,((Below.refl _ _).alloc (zn6 _) _).alloc (by simp) _⟩
 exact Mp.congr (g:=fun _ => none) (M1.tch (S:=fun _ => False) (Tch.of_below ((Below.refl _ _).alloc (zn6 _) _)) (fun e => e)) (fun i _ => by simp [gF])
theorem zap9 {x : Int} (h0 : 0 <= x) (h1 : x <= 65535) : (Lit.int .i64 x).wf = true:=by
 simp [Lit.wf,IntKind.min,IntKind.max,IntKind.signed,IntKind.bits]; omega
theorem zsn9 (a : AS) (l : List Int) (x : Int) : a.gos (l ++ [x]) = (a.gos l).go x:=by
 unfold AS.gos; rw [List.foldl_append]; rfl
theorem zhh9 (l : List Int) (hl : ∀ x ∈ l,(Lit.int .i64 x).wf = true) (v : Value) (w : World) (H : Tz U w t c d M N a) (hr : RdV w v (nums l)) (hv : ∀ j,v.ownBlock = some j -> ¬ U j) (hlen : l.length <= 1000000000000) :
  Calls Tryz.prog 58 #[tp t,v] w fun e w' => e = .returned (.tuple #[]) /\ TzTo U w w' t c d M N (a.gos l):=by
 obtain ⟨da,dc,hdv,hdl,hdm,hdn⟩:=hr.len
 rw [zn9] at hdv hdl
 subst hdv
 have HR:=hideN hr
 have HV:=hideN hv
 have HT:=hideN H
 have HL:=hideN hl
 obtain ⟨k,hk⟩:=exN l.length
 have HK:=hideN hk
 rw [hk] at HR HV hlen ⊢
 clear hr hv H hl hk hdl hdm hdn
 go_enter Tryz.func58,Tryz.ntmps58
 go_wp2_with fail
 go_loopw [8] (fun kv wr => ∃ (j : Nat),j <= k /\ kv = .int .i64 j /\ Hid (TzTo U w wr t c d M N (a.gos (l.take j)))) (fun kv _ => k - (intOf kv).toNat)
 case atStart => exact ⟨0,zn7 _,rfl,by rw [List.take_zero]; exact HT.out.to⟩
 case round =>
  obtain ⟨j,hj,rfl,ZK⟩:=hrel
  by_cases hjt : j < k
  ·have hji : (j : Int) < (k : Int):=by omega
   have hj0 : (0 : Int) <= (j : Int):=by omega
   obtain ⟨U1,hT1,ht1,hU1⟩:=ZK.out
   have hjl : j < l.length:=by rw [HK.out]; exact hjt
   obtain ⟨x,hx⟩:=exN (l[j])
   have hmem : x ∈ l:=by rw [<- hx]; exact List.getElem_mem hjl
   have HX : Hid ((Lit.int .i64 x).wf = true):=HL.out x hmem
   have HTK : Hid (l.take (j + 1) = l.take j ++ [x]):=by show _ = _; rw [List.take_add_one,List.getElem?_eq_getElem hjl,hx]; rfl
   obtain ⟨db,dO,rfl,hcell⟩:=HR.out.at (i:=j) (c:=.int .i64 x) (by rw [nums,List.getElem?_map,List.getElem?_eq_getElem hjl,hx]; rfl)
   have ck : wr.cell? ⟨db,dO + j,none⟩ = some (.int .i64 x):=by
    rw [ht1.cell (p:=⟨db,dO + j,none⟩) (World.block_lt_of_cell? w ⟨db,dO + j,none⟩ hcell) (HV.out db rfl)]
    exact hcell
   obtain ⟨a1,ha1⟩:=exN (a.gos (l.take j))
   rw [ha1] at hT1
   have HA1:=hideN ha1
   have HT1:=hideN hT1
   have H1 : Hid (Tch U w wr /\ ∀ k,U1 k -> U k ∨ w.heap.size <= k):=⟨ht1,hU1⟩
   have c1:=hT1.c1
   have HBK:=hideN (tzBack x wr hT1)
   clear hT1 ht1 hU1 ha1 hcell hx hmem ZK hjl
   go_wp2_with fail
   refine HBK.out.mono ?_
   rintro e w2 ⟨rfl,U2,hT2,ht2,hU2⟩
   have c0:=hT2.c0
   have HFG:=hideN (zrm9 x HX.out w2 hT2)
   have HT2 : Hid (Tch U1 wr w2 /\ ∀ k,U2 k -> U1 k ∨ wr.heap.size <= k):=⟨ht2,hU2⟩
   clear hT2 ht2 hU2 HBK c1 ck
   obtain ⟨bb,hbb⟩:=exH ((Ah.back x a1.A).1)
   rw [hbb.out]
   go_wp2_with fail
   refine HFG.out.mono ?_
   rintro e w3 ⟨rfl,U3,hT3,ht3,hU3⟩
   have HT3 : Hid (Tch U2 w2 w3 /\ ∀ k,U3 k -> U2 k ∨ w2.heap.size <= k):=⟨ht3,hU3⟩
   obtain ⟨fb,X,S,Y,s,D,h3⟩:=hT3
   have HH3:=hideN h3
   have c2:=h3.c2
   have HM:=hideN h3.fm
   clear h3 ht3 hU3 HFG c0
   go_wp2_with (with_reducible (show wpList _ _ _ (Oper.mk _ (Op.call _) _ _ _ _ :: _) _ _); refine zix9 rfl (.tmp 27) (.tmp 28) rfl fb N _ x rfl rfl HM.out HX.out ?_)
   intro w4 m4 t4
   have HFIN : Hid (TzTo U w w4 t c d M N (a.gos (l.take (j + 1)))):=by
    obtain ⟨q1,q2⟩:=HH3.out.fmTo m4 t4 (fun y hy => by
     unfold updI at hy
     split at hy
     ·cases hy
     ·exact HH3.out.ok.fr y hy)
    show TzTo _ _ _ _ _ _ _ _ _
    rw [HTK.out,zsn9,HA1.out]
    have z4 : TzTo U3 w3 w4 t c d M N (a1.go x):=⟨U3,q1,q2,fun _ e => .inl e⟩
    exact TzTo.after H1.out.1 H1.out.2 (TzTo.after HT2.out.1 HT2.out.2 (TzTo.after HT3.out.1 HT3.out.2 z4))
   clear m4 t4 c2
   go_wp2_with fail
   exact ⟨⟨j + 1,by omega,by rfl,HFIN⟩,by simp [intOf]; omega⟩
  ·have e1 : decide (j < k) = false:=by rw [zn4]; exact hjt
   have ej : j = k:=by omega
   have HFIN : Hid (TzTo U w wr t c d M N (a.gos l)):=by
    have:=ZK.out
    rw [ej,<- HK.out,List.take_length] at this
    exact this
   clear ej ZK hjt hj
   go_wp2_with fail
   go_end0
   exact ⟨rfl,HFIN.out⟩
end
def freshN (N : Nat) (F : Int -> Bool) : List Nat:=(List.range N).filter fun i => F (i : Int)
def freshL (N : Nat) (F : Int -> Bool) : List Int:=(freshN N F).map Int.ofNat
theorem zig9 (N : Nat) (F : Int -> Bool) : intKeys (Dm N (gF F)) = freshL N F:=by
 rw [zkj9]
 unfold freshL freshN
 congr 1
 refine List.filter_congr fun i hi => ?_
 unfold gF
 cases F (i : Int) <;> simp
theorem zfh9 (N : Nat) (F : Int -> Bool) : (freshL N F).Pairwise (fun a b => a < b):=by
 unfold freshL
 rw [List.pairwise_map]
 refine List.Pairwise.filter _ (List.Pairwise.imp (fun {a b} (h : a < b) => ?_) List.pairwise_lt_range)
 exact Int.ofNat_lt.2 h
theorem zjv9 {N : Nat} {F : Int -> Bool} {x : Int} : x ∈ freshL N F ↔ 0 <= x /\ x < N /\ F x = true:=by
 unfold freshL freshN
 rw [List.mem_map]
 constructor
 ·rintro ⟨i,hi,rfl⟩
  have:=List.mem_filter.1 hi
  refine ⟨Int.natCast_nonneg _,?_,this.2⟩
  have:=List.mem_range.1 this.1
  exact Int.ofNat_lt.2 this
 ·rintro ⟨h0,h1,h2⟩
  refine ⟨x.toNat,List.mem_filter.2 ⟨List.mem_range.2 (by omega),?_⟩,by show ((x.toNat : Nat) : Int) = x; omega⟩
  rw [show ((x.toNat : Nat) : Int) = x by omega]
  exact h2
theorem ziq9 {ss l : List Int} (hl : l.Pairwise (fun a b => a <= b)) (h : ss.Perm l) : ss.mergeSort (fun x y => decide (x <= y)) = l:=by
 have tr : ∀ a b c : Int,decide (a <= b) = true -> decide (b <= c) = true -> decide (a <= c) = true:=fun a b c h1 h2 => by simp only [decide_eq_true_eq] at *; omega
 have to : ∀ a b : Int,(decide (a <= b) || decide (b <= a)) = true:=fun a b => by simp only [Bool.or_eq_true,decide_eq_true_eq]; omega
 refine List.Perm.eq_of_pairwise (le:=fun a b => decide (a <= b) = true) (fun a b _ _ h1 h2 => by simp only [decide_eq_true_eq] at h1 h2; omega) (List.pairwise_mergeSort tr to ss) (hl.imp fun {a b} h => by simpa using h) ((List.mergeSort_perm ss _).trans h)
section
variable {U : Nat -> Prop} {t c d M N : Nat} {a : AS}
theorem zmn9 (w : World) (H : Tz U w t c d M N a) :
  Calls Tryz.prog 25 #[tp t] w fun e w' => ∃ v,e = .returned v /\ OwnsK w' v (freshL N a.F) /\ Below w.heap.size w w' /\ ∀ k,v.ownBlock = some k -> w.heap.size <= k:=by
 obtain ⟨vb,c2,hown,_⟩:=H.map
 have HP : Hid (intKeys (Dm N (gF a.F)) = freshL N a.F):=zig9 _ _
 have hsz:=zoh9 N (gF a.F)
 have n2:=H.n2
 obtain ⟨D0,hD⟩:=exN (Dm N (gF a.F))
 unfold Mp at hown
 rw [hD] at HP hown hsz
 clear H hD
 refine (callsIn_wide (n:=6)).1 ?_
 have hbl:=hown.lt
 have hseq : SeqGives Fence.wide 2 Tryz.prog 87 #[.pointer (some ⟨w.heap.size,0,none⟩)] encZ (fun ss => ss.Perm (intKeys D0)) (Maps.size D0) (w.alloc (.cells #[.map (some vb)] 88)):=
  AnyZI.keys_gives (ρ:=Tryz.keysT_ren) { Tryz.keysT with } Fence.wide _ trivial rfl (by omega) w.heap.size vb N D0 _ (by simp) (by simp) (by
   obtain ⟨es,clock,hb,Ft,hs,hD⟩:=hown
   exact ⟨es,clock,(Below.heap_alloc _ _ vb hbl).trans hb,Ft,hs,hD⟩)
 have cK : ∀ mb W,CallsIn Fence.wide 5 Tryz.prog 57 #[.map mb] W fun e w' => e = .returned (.func (.func 87) #[] #[.pointer (some ⟨W.heap.size,0,none⟩)]) /\ w' = W.alloc (.cells #[.map mb] 88):=fun mb W => AnyZI.keys_in Tryz.keysT Fence.wide 5 trivial rfl mb W
 have cS:=AnyZI.sorted_in Tryz.sortedA Fence.wide 5 trivial trivial trivial trivial rfl (by omega) (Tryz.sortsA _) (enters_of Tryz.func66 (by kernel_rfl) rfl) 87 #[.pointer (some ⟨w.heap.size,0,none⟩)] trivial (enters_of Tryz.func87 (by kernel_rfl) rfl) _ _ (by unfold maxLen; omega) (by omega) _ hseq
 change CallsIn _ _ Tryz.prog 56 _ _ _ at cS
 have hfK : Fence.wide.fn 57:=trivial
 have hfS : Fence.wide.fn 56:=trivial
 refine callsIn_of_wp Tryz.func25 rfl trivial ?_ rfl
 simp only [Tryz.ntmps25,List.size_toArray,List.length_cons,List.length_nil,Nat.reduceAdd,Nat.reduceSub,Array.replicate_succ,Array.replicate_zero,List.push_toArray,List.append_toArray,List.nil_append,List.cons_append]
 gi_wp2_with (first
  | (gi_at_call 57; refine (cK _ _).mono ?_; rintro e w' ⟨rfl,rfl⟩)
  | (gi_at_call 56; refine cS.mono ?_; rintro e w' ⟨v,ss,rfl,hS,hrow,hnil,hb⟩))
 go_ret
 rw [HP.out] at hS
 have h1:=ziq9 ((zfh9 N a.F).imp (fun h => Int.le_of_lt h)) hS
 have hl : ss.length = (freshL N a.F).length:=hS.length_eq
 rw [h1,hl] at hrow
 have hlow:=hrow.lt
 refine ⟨v,rfl,ownsRow_base_a hrow (zn7 _),((Below.refl _ w).alloc (zn6 _) _).trans (hb.mono (by simp)),fun k hk => ?_⟩
 have:=(hlow k hk).1
 simp at this
 omega
end
end Go.Proofs.YtjhccpijpffahaaGreat
