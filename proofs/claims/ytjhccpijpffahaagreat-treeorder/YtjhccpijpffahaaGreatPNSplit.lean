import Derived.Test.YtjhccpijpffahaaGreatPNCut
set_option maxRecDepth 100000
set_option linter.unusedVariables false
set_option linter.unusedSimpArgs false
set_option maxHeartbeats 8000000
namespace Go.Proofs.YtjhccpijpffahaaGreat
open Go.RowKit Pl
def takeN (n : Nd) (m : Nat) : Nd:={ lf:=n.lf,ks:=n.ks.take m,vs:=n.vs.take m,kd:=n.kd.take m }
def dropN (n : Nd) (m : Nat) : Nd:={ lf:=n.lf,ks:=n.ks.drop m,vs:=n.vs.drop m,kd:=n.kd.drop m }
def noneN : Nd:={ lf:=false,ks:=[],vs:=[],kd:=[] }
theorem zbx9 {fn : Func} {p q : Tmp} {ty tz : TypeId} (h : fn.results = #[.cell p ty,.cell q tz]) (tmps : Array Value) (P : Program) (w : World) (b c : Nat) (v x : Value) (ha : tmps.getD p undef = .pointer (some ⟨b,0,none⟩)) (hc : tmps.getD q undef = .pointer (some ⟨c,0,none⟩))
  (hl : (loadVar ty ⟨b,0,none⟩).run P w = .ok v w) (hx : (loadVar tz ⟨c,0,none⟩).run P w = .ok x w) : (results fn tmps).run P w = .ok (.tuple #[v,x]) w:=by
 rw [Array.getD_eq_getD_getElem?] at ha hc
 simp only [results,h]
 simp [Sem.run_bind,Result.andThen,asAddr]
 rw [ha,hc]
 simp [hl,hx]
theorem zcj9 {o : Oper} {a : Act} {w : World} {K : Act -> World -> Prop} {Q : Exit -> Act -> World -> Prop} (ho : o.op = .alloc 93)
  (h : K (a.put o.dst (.pointer (some ⟨w.heap.size,0,none⟩))) (w.alloc (.cells #[.bool false,.slice none 0 0,.slice none 0 0,.slice none 0 0] 93))) : Oper.wp Tryz.prog o a w K Q:=by
 have hrun : (execOp a.eval o).run Tryz.prog w = .ok (Next.value (.pointer (some ⟨w.heap.size,0,none⟩))) (w.alloc (.cells #[.bool false,.slice none 0 0,.slice none 0 0,.slice none 0 0] 93)):=by
  unfold execOp
  simp only [ho]
  go_simp
 unfold Oper.wp
 simp only [hrun,Oper.upon]
 exact h
structure SpN (W3 Y : World) (b p q : Nat) (lf lp lq : Bool) (u1 u2 u3 k1 k2 k3 o1 o2 o3 : Value) : Prop where
 n : Nb Y 93 b lf u1 u2 u3
 r2 : Nb Y 93 (b + 1) false (.slice none 0 0) (.slice none 0 0) (.slice none 0 0)
 r3 : Nb Y 93 (b + 2) false (.slice none 0 0) (.slice none 0 0) (.slice none 0 0)
 pk : Nb Y 93 p lp k1 k2 k3
 qk : Nb Y 93 q lq o1 o2 o3
 bl : Below W3.heap.size W3 Y
 pq : p ≠ q
 pl : b + 3 <= p
 ql : b + 3 <= q
 pz : p < b + 5
 qz : q < b + 5
 w3 : W3.heap.size = b + 3
 zz : b + 5 <= Y.heap.size
section
variable {W3 Y Y' : World} {b p q : Nat} {lf lp lq : Bool} {u1 u2 u3 k1 k2 k3 o1 o2 o3 : Value}
theorem SpN.below (h : SpN W3 Y b p q lf lp lq u1 u2 u3 k1 k2 k3 o1 o2 o3) (hb : Below Y.heap.size Y Y') : SpN W3 Y' b p q lf lp lq u1 u2 u3 k1 k2 k3 o1 o2 o3:=
 ⟨h.n.below hb,h.r2.below hb,h.r3.below hb,h.pk.below hb,h.qk.below hb,h.bl.trans (hb.mono h.bl.size),h.pq,h.pl,h.ql,h.pz,h.qz,h.w3,zn2 h.zz hb.size⟩
theorem SpN.atp {lg : Bool} {x1 x2 x3 : Value} (h : SpN W3 Y b p q lf lp lq u1 u2 u3 k1 k2 k3 o1 o2 o3) (ht : Tch (fun j => j = p) Y Y') (hp : Nb Y' 93 p lg x1 x2 x3) : SpN W3 Y' b p q lf lg lq u1 u2 u3 x1 x2 x3 o1 o2 o3:=by
 have h1:=h.pl
 have h2:=h.w3
 have h3:=h.pq
 exact ⟨h.n.tch ht (by omega),h.r2.tch ht (by omega),h.r3.tch ht (by omega),hp,h.qk.tch ht (by omega),h.bl.trans (ht.below h.bl.size (fun j e => by omega)),h.pq,h.pl,h.ql,h.pz,h.qz,h.w3,zn2 h.zz ht.size⟩
theorem SpN.atq {lg : Bool} {x1 x2 x3 : Value} (h : SpN W3 Y b p q lf lp lq u1 u2 u3 k1 k2 k3 o1 o2 o3) (ht : Tch (fun j => j = q) Y Y') (hp : Nb Y' 93 q lg x1 x2 x3) : SpN W3 Y' b p q lf lp lg u1 u2 u3 k1 k2 k3 x1 x2 x3:=by
 have h1:=h.ql
 have h2:=h.w3
 have h3:=h.pq
 exact ⟨h.n.tch ht (by omega),h.r2.tch ht (by omega),h.r3.tch ht (by omega),h.pk.tch ht (by omega),hp,h.bl.trans (ht.below h.bl.size (fun j e => by omega)),h.pq,h.pl,h.ql,h.pz,h.qz,h.w3,zn2 h.zz ht.size⟩
theorem SpN.setp (h : SpN W3 Y b p q lf lp lq u1 u2 u3 k1 k2 k3 o1 o2 o3) (lg : Bool) {x1 x2 x3 : Value} : SpN W3 ((((Y.setCell ⟨p,0,none⟩ (.bool lg)).setCell ⟨p,1,none⟩ x1).setCell ⟨p,2,none⟩ x2).setCell ⟨p,3,none⟩ x3) b p q lf lg lq u1 u2 u3 x1 x2 x3 o1 o2 o3:=h.atp (zp9 _ _ _ _ _ _) (h.pk.all _ _ _ _)
theorem SpN.setq (h : SpN W3 Y b p q lf lp lq u1 u2 u3 k1 k2 k3 o1 o2 o3) (lg : Bool) {x1 x2 x3 : Value} : SpN W3 ((((Y.setCell ⟨q,0,none⟩ (.bool lg)).setCell ⟨q,1,none⟩ x1).setCell ⟨q,2,none⟩ x2).setCell ⟨q,3,none⟩ x3) b p q lf lp lg u1 u2 u3 k1 k2 k3 x1 x2 x3:=h.atq (zp9 _ _ _ _ _ _) (h.qk.all _ _ _ _)
theorem SpN.p1 (h : SpN W3 Y b p q lf lp lq u1 u2 u3 k1 k2 k3 o1 o2 o3) (x : Value) : SpN W3 (Y.setCell ⟨p,1,none⟩ x) b p q lf lp lq u1 u2 u3 x k2 k3 o1 o2 o3:=h.atp (tch_at _ _ _ _) (h.pk.s1 x)
theorem SpN.q1 (h : SpN W3 Y b p q lf lp lq u1 u2 u3 k1 k2 k3 o1 o2 o3) (x : Value) : SpN W3 (Y.setCell ⟨q,1,none⟩ x) b p q lf lp lq u1 u2 u3 k1 k2 k3 x o2 o3:=h.atq (tch_at _ _ _ _) (h.qk.s1 x)
theorem SpN.p2 (h : SpN W3 Y b p q lf lp lq u1 u2 u3 k1 k2 k3 o1 o2 o3) (x : Value) : SpN W3 (Y.setCell ⟨p,2,none⟩ x) b p q lf lp lq u1 u2 u3 k1 x k3 o1 o2 o3:=h.atp (tch_at _ _ _ _) (h.pk.s2 x)
theorem SpN.q2 (h : SpN W3 Y b p q lf lp lq u1 u2 u3 k1 k2 k3 o1 o2 o3) (x : Value) : SpN W3 (Y.setCell ⟨q,2,none⟩ x) b p q lf lp lq u1 u2 u3 k1 k2 k3 o1 x o3:=h.atq (tch_at _ _ _ _) (h.qk.s2 x)
theorem SpN.p3 (h : SpN W3 Y b p q lf lp lq u1 u2 u3 k1 k2 k3 o1 o2 o3) (x : Value) : SpN W3 (Y.setCell ⟨p,3,none⟩ x) b p q lf lp lq u1 u2 u3 k1 k2 x o1 o2 o3:=h.atp (tch_at _ _ _ _) (h.pk.s3 x)
theorem SpN.q3 (h : SpN W3 Y b p q lf lp lq u1 u2 u3 k1 k2 k3 o1 o2 o3) (x : Value) : SpN W3 (Y.setCell ⟨q,3,none⟩ x) b p q lf lp lq u1 u2 u3 k1 k2 k3 o1 o2 x:=h.atq (tch_at _ _ _ _) (h.qk.s3 x)
theorem SpN.keep (h : SpN W3 Y b p q lf lp lq u1 u2 u3 k1 k2 k3 o1 o2 o3) {v : Value} {xs : List Value} (hr : RdV Y v xs) (hn : ∀ j,v.ownBlock = some j -> b + 5 <= j) {i i' : Nat} {x x' : Value} : RdV ((Y.setCell ⟨p,i,none⟩ x).setCell ⟨q,i',none⟩ x') v xs:=
 (hr.tch (tch_at _ _ _ _) (fun j hj e => by have:=hn j hj; have:=h.pz; omega)).tch (tch_at _ _ _ _) (fun j hj e => by have:=hn j hj; have:=h.qz; omega)
theorem SpN.cells (h : SpN W3 Y b p q lf lp lq u1 u2 u3 k1 k2 k3 o1 o2 o3) : Y.cell? ⟨b,0,none⟩ = some (.bool lf) /\ Y.cell? ⟨b,1,none⟩ = some u1 /\ Y.cell? ⟨b,2,none⟩ = some u2 /\ Y.cell? ⟨b,3,none⟩ = some u3:=⟨h.n.c0,h.n.c1,h.n.c2,h.n.c3⟩
end
def SplR (n A B : Nd) : Prop:=(n.ks.length < 2 /\ A = joinN n noneN /\ B = noneN) ∨ (2 <= n.ks.length /\ ∃ m,MidR n m /\ A = takeN n m /\ B = dropN n m)
def Ub3 (w : World) (v1 v2 v3 : Value) : Prop:=∀ j,(v1.ownBlock = some j ∨ v2.ownBlock = some j ∨ v3.ownBlock = some j) -> j < w.heap.size
theorem zld9 (n : Nd) (u1 u2 u3 : Value) (w : World) (h : Nn w n u1 u2 u3) (hs : Sm n) :
  Calls Tryz.prog 158 #[nod n.lf u1 u2 u3] w fun e w' => (∃ k1 k2 k3 o1 o2 o3 A B,e = .returned (.tuple #[nod A.lf k1 k2 k3,nod B.lf o1 o2 o3]) /\ Nn w' A k1 k2 k3 /\ Nn w' B o1 o2 o3 /\ SplR n A B /\ Fr3 w.heap.size k1 k2 k3 /\ Fr3 w.heap.size o1 o2 o3 /\ Ub3 w' k1 k2 k3 /\ Ub3 w' o1 o2 o3) /\ Below w.heap.size w w':=by
 suffices X : Calls Tryz.prog 158 #[nod n.lf u1 u2 u3] w fun e w' => (∃ k1 k2 k3 o1 o2 o3 A B,e = .returned (.tuple #[nod n.lf k1 k2 k3,nod (if n.ks.length < 2 then false else n.lf) o1 o2 o3]) /\ Nn w' A k1 k2 k3 /\ Nn w' B o1 o2 o3 /\ SplR n A B /\ Fr3 w.heap.size k1 k2 k3 /\ Fr3 w.heap.size o1 o2 o3 /\ Ub3 w' k1 k2 k3 /\ Ub3 w' o1 o2 o3) /\ Below w.heap.size w w' by
  refine X.mono ?_
  rintro e w' ⟨⟨k1,k2,k3,o1,o2,o3,A,B,rfl,hA,hB,hR,hF⟩,hb⟩
  refine ⟨⟨k1,k2,k3,o1,o2,o3,A,B,?_,hA,hB,hR,hF⟩,hb⟩
  rcases hR with ⟨hl,rfl,rfl⟩ | ⟨hl,m,_,rfl,rfl⟩
  ·rw [if_pos hl]; rfl
  ·rw [if_neg (by omega)]; rfl
 obtain ⟨a1,c1,a2,c2,a3,c3,rfl,rfl,rfl,⟨l1,l2,l3,l4,l5,l6⟩,_,_,_⟩:=h.out
 have H:=hideN h
 have HS:=hideN hs
 obtain ⟨L1,hL1⟩:=exH n.ks.length
 obtain ⟨L2,hL2⟩:=exH n.vs.length
 obtain ⟨L3,hL3⟩:=exH n.kd.length
 rw [hL1.out] at H l1 ⊢
 rw [hL2.out] at H l3 ⊢
 rw [hL3.out] at H l5 ⊢
 obtain ⟨lf,hlf⟩:=exH n.lf
 rw [hlf.out]
 unfold nod
 obtain ⟨W1,hW1⟩:=exN (w.alloc (.cells #[.bool lf,.slice a1 L1 c1,.slice a2 L2 c2,.slice a3 L3 c3] 93))
 have B1 : Hid (Below w.heap.size w W1):=by rw [<- hW1]; exact za9 _ _
 have V1 : Hid (Nb W1 93 w.heap.size lf (.slice a1 L1 c1) (.slice a2 L2 c2) (.slice a3 L3 c3)):=by rw [<- hW1]; exact nb_new _ _ _ _ _ _
 have H1 : Hid (Nn W1 n (.slice a1 L1 c1) (.slice a2 L2 c2) (.slice a3 L3 c3)):=H.out.below B1.out
 obtain ⟨W2,hW2⟩:=exN (W1.alloc (.cells #[.bool false,.slice none 0 0,.slice none 0 0,.slice none 0 0] 93))
 obtain ⟨W3,hW3⟩:=exN (W2.alloc (.cells #[.bool false,.slice none 0 0,.slice none 0 0,.slice none 0 0] 93))
 have s1 : W1.heap.size = w.heap.size + 1:=by rw [<- hW1]; simp
 have s2 : W2.heap.size = w.heap.size + 2:=by rw [<- hW2]; simp [s1]
 have s3 : Hid (W3.heap.size = w.heap.size + 3):=by rw [<- hW3]; simp [s2,Hid]
 have b2 : Below W1.heap.size W1 W2:=by rw [<- hW2]; exact za9 _ _
 have b3 : Below W2.heap.size W2 W3:=by rw [<- hW3]; exact za9 _ _
 have BW3 : Hid (Below w.heap.size w W3):=(B1.out.trans (b2.mono B1.out.size)).trans (b3.mono (B1.out.trans (b2.mono B1.out.size)).size)
 have Y2 : Nb W2 93 (w.heap.size + 1) false (.slice none 0 0) (.slice none 0 0) (.slice none 0 0):=by rw [<- hW2,<- s1]; exact nb_new _ _ _ _ _ _
 have Z3 : Nb W3 93 (w.heap.size + 2) false (.slice none 0 0) (.slice none 0 0) (.slice none 0 0):=by rw [<- hW3,<- s2]; exact nb_new _ _ _ _ _ _
 have SS : Hid (Nb W3 93 w.heap.size lf (.slice a1 L1 c1) (.slice a2 L2 c2) (.slice a3 L3 c3) /\ Nb W3 93 (w.heap.size + 1) false (.slice none 0 0) (.slice none 0 0) (.slice none 0 0) /\ Nb W3 93 (w.heap.size + 2) false (.slice none 0 0) (.slice none 0 0) (.slice none 0 0)):=⟨(V1.out.below b2).below b3,Y2.below b3,Z3⟩
 have HCT1 : Hid (∀ (W : World) (m : Nat),Below W3.heap.size W3 W -> m <= 9007199254740992 -> Calls Tryz.prog 176 #[.slice a1 L1 c1,.int .i64 (m : Int)] W fun e w' => (∃ v1 v2,e = .returned (.tuple #[v1,v2]) /\ RdV w' v1 ((strs n.ks).take m) /\ RdV w' v2 ((strs n.ks).drop m) /\ ∀ j,(v1.ownBlock = some j ∨ v2.ownBlock = some j) -> W.heap.size <= j /\ j < w'.heap.size) /\ Below W.heap.size W w'):=fun W m hb hm =>
  zfd9 _ _ m W ((H.out.below BW3.out).below hb).k (zam9 _) (by rw [zi9]; have:=HS.out.kl; omega) hm
 have HCT2 : Hid (∀ (W : World) (m : Nat),Below W3.heap.size W3 W -> m <= 9007199254740992 -> Calls Tryz.prog 176 #[.slice a2 L2 c2,.int .i64 (m : Int)] W fun e w' => (∃ v1 v2,e = .returned (.tuple #[v1,v2]) /\ RdV w' v1 ((strs n.vs).take m) /\ RdV w' v2 ((strs n.vs).drop m) /\ ∀ j,(v1.ownBlock = some j ∨ v2.ownBlock = some j) -> W.heap.size <= j /\ j < w'.heap.size) /\ Below W.heap.size W w'):=fun W m hb hm =>
  zfd9 _ _ m W ((H.out.below BW3.out).below hb).v (zam9 _) (by rw [zi9]; have:=HS.out.vl; omega) hm
 have HCT3 : Hid (∀ (W : World) (m : Nat),Below W3.heap.size W3 W -> m <= 9007199254740992 -> Calls Tryz.prog 177 #[.slice a3 L3 c3,.int .i64 (m : Int)] W fun e w' => (∃ v1 v2,e = .returned (.tuple #[v1,v2]) /\ RdV w' v1 ((nums n.kd).take m) /\ RdV w' v2 ((nums n.kd).drop m) /\ ∀ j,(v1.ownBlock = some j ∨ v2.ownBlock = some j) -> W.heap.size <= j /\ j < w'.heap.size) /\ Below W.heap.size W w'):=fun W m hb hm =>
  zjm9 _ _ m W ((H.out.below BW3.out).below hb).d (zcq9 _) (by rw [zk9]; have:=HS.out.dl; omega) hm
 have c0:=SS.out.1.c0
 have c1':=SS.out.1.c1
 have c2':=SS.out.1.c2
 have c3':=SS.out.1.c3
 by_cases hl2 : L1 < 2
 ·rw [if_pos hl2]
  have HJ : Hid (Calls Tryz.prog 174 #[.agg #[.bool lf,.slice a1 L1 c1,.slice a2 L2 c2,.slice a3 L3 c3],.agg #[.bool false,.slice none 0 0,.slice none 0 0,.slice none 0 0]] W3 fun e w' => (∃ x1 x2 x3,e = .returned (nod lf x1 x2 x3) /\ Nn w' (joinN n noneN) x1 x2 x3 /\ (∀ j,x1.ownBlock = some j -> W3.heap.size <= j /\ j < w'.heap.size) /\ (∀ j,x2.ownBlock = some j -> W3.heap.size <= j /\ j < w'.heap.size) /\ (∀ j,x3.ownBlock = some j -> W3.heap.size <= j /\ j < w'.heap.size)) /\ Below W3.heap.size W3 w'):=by
   have:=zmi9 n noneN _ _ _ _ _ _ W3 (H.out.below BW3.out) ⟨zae9 _,zae9 _,zae9 _⟩ (by have:=HS.out.kl; simp [noneN]; omega) (by have:=HS.out.vl; simp [noneN]; omega) (by have:=HS.out.dl; simp [noneN]; omega)
   rw [hlf.out] at this
   exact this
  clear h hs H b2 b3 Y2 Z3 HCT1 HCT2 HCT3
  go_enter Tryz.func158,Tryz.ntmps158
  go_wp2_with fail
  refine HJ.out.mono ?_
  rintro e X ⟨⟨x1,x2,x3,rfl,hN,hnw⟩,bl⟩
  obtain ⟨k1a,k1c,ek1⟩:=hN.k.long
  obtain ⟨k2a,k2c,ek2⟩:=hN.v.long
  obtain ⟨k3a,k3c,ek3⟩:=hN.d.long
  obtain ⟨k1l,hk1l⟩:=exH ((strs (joinN n noneN).ks).length)
  obtain ⟨k2l,hk2l⟩:=exH ((strs (joinN n noneN).vs).length)
  obtain ⟨k3l,hk3l⟩:=exH ((nums (joinN n noneN).kd).length)
  rw [hk1l.out] at ek1
  rw [hk2l.out] at ek2
  rw [hk3l.out] at ek3
  subst ek1 ek2 ek3
  have r2:=SS.out.2.1.below bl
  have r3:=SS.out.2.2.below bl
  have tA:=zp9 X (w.heap.size + 1) (.bool lf) (.slice k1a k1l k1c) (.slice k2a k2l k2c) (.slice k3a k3l k3c)
  have NA:=r2.all lf (.slice k1a k1l k1c) (.slice k2a k2l k2c) (.slice k3a k3l k3c)
  have rA:=r3.tch tA (by omega)
  obtain ⟨WA,hWA⟩:=exN ((((X.setCell ⟨w.heap.size + 1,0,none⟩ (.bool lf)).setCell ⟨w.heap.size + 1,1,none⟩ (.slice k1a k1l k1c)).setCell ⟨w.heap.size + 1,2,none⟩ (.slice k2a k2l k2c)).setCell ⟨w.heap.size + 1,3,none⟩ (.slice k3a k3l k3c))
  rw [hWA] at tA NA rA
  have tB:=zp9 WA (w.heap.size + 2) (.bool false) (.slice none 0 0) (.slice none 0 0) (.slice none 0 0)
  have NB:=rA.all false (.slice none 0 0) (.slice none 0 0) (.slice none 0 0)
  have NC:=NA.tch tB (by omega)
  obtain ⟨WB,hWB⟩:=exN ((((WA.setCell ⟨w.heap.size + 2,0,none⟩ (.bool false)).setCell ⟨w.heap.size + 2,1,none⟩ (.slice none 0 0)).setCell ⟨w.heap.size + 2,2,none⟩ (.slice none 0 0)).setCell ⟨w.heap.size + 2,3,none⟩ (.slice none 0 0))
  rw [hWB] at tB NB NC
  have p0:=r2.c0
  have p1:=r2.c1
  have p2:=r2.c2
  have p3:=r2.c3
  have f0:=r2.fz 0
  have f1':=r2.fz 1
  have f2':=r2.fz 2
  have f3':=r2.fz 3
  have y0:=rA.c0
  have y1:=rA.c1
  have y2:=rA.c2
  have y3:=rA.c3
  have g0:=rA.fz 0
  have g1:=rA.fz 1
  have g2:=rA.fz 2
  have g3:=rA.fz 3
  have LA:=hideN NC.load
  have LB:=hideN NB.load
  have KK : Hid (Nn WB (joinN n noneN) (.slice k1a k1l k1c) (.slice k2a k2l k2c) (.slice k3a k3l k3c)):=by
   have nn:=hN
   exact (nn.tch tA (fun j hj e => by have:=(hnw.1 j hj).1; have:=s3.out; omega) (fun j hj e => by have:=(hnw.2.1 j hj).1; have:=s3.out; omega) (fun j hj e => by have:=(hnw.2.2 j hj).1; have:=s3.out; omega)).tch tB (fun j hj e => by have:=(hnw.1 j hj).1; have:=s3.out; omega) (fun j hj e => by have:=(hnw.2.1 j hj).1; have:=s3.out; omega) (fun j hj e => by have:=(hnw.2.2 j hj).1; have:=s3.out; omega)
  have OO : Hid (Nn WB noneN (.slice none 0 0) (.slice none 0 0) (.slice none 0 0)):=⟨zae9 _,zae9 _,zae9 _⟩
  have BB : Hid (Below w.heap.size w WB):=by
   have h1 : Below w.heap.size w X:=BW3.out.trans (bl.mono BW3.out.size)
   have h2 : Below w.heap.size w WA:=h1.trans (tA.below h1.size (fun j e => by omega))
   exact h2.trans (tB.below h2.size (fun j e => by omega))
  have HL : Hid (L1 < 2):=hl2
  have FK : Hid (Fr3 w.heap.size (.slice k1a k1l k1c) (.slice k2a k2l k2c) (.slice k3a k3l k3c)):=fun j hj => by
   have:=s3.out
   rcases hj with e | e | e
   ·have:=(hnw.1 j e).1; omega
   ·have:=(hnw.2.1 j e).1; omega
   ·have:=(hnw.2.2 j e).1; omega
  have FO : Hid (Fr3 w.heap.size (.slice none 0 0) (.slice none 0 0) (.slice none 0 0)):=fun j hj => by
   rcases hj with e | e | e <;> cases e
  have UK : Hid (Ub3 WB (.slice k1a k1l k1c) (.slice k2a k2l k2c) (.slice k3a k3l k3c)):=fun j hj => by
   refine zn1 ?_ (zn2 tA.size tB.size)
   rcases hj with e | e | e
   ·exact (hnw.1 j e).2
   ·exact (hnw.2.1 j e).2
   ·exact (hnw.2.2 j e).2
  have UO : Hid (Ub3 WB (.slice none 0 0) (.slice none 0 0) (.slice none 0 0)):=fun j hj => by
   rcases hj with e | e | e <;> cases e
  clear tA tB NA NB NC rA r2 r3 hN hnw bl c0 c1' c2' c3' hW1 hW2 hW3 SS HJ BW3
  unfold nod
  go_wp2_with fail
  try rw [hWA]
  try rw [hWB]
  refine bodyPost_ret (v:=.tuple #[nod lf (.slice k1a k1l k1c) (.slice k2a k2l k2c) (.slice k3a k3l k3c),nod false (.slice none 0 0) (.slice none 0 0) (.slice none 0 0)]) (zbx9 (p:=2) (q:=3) (ty:=93) (tz:=93) rfl _ _ _ (w.heap.size + 1) (w.heap.size + 2) _ _ rfl rfl LA.out LB.out) rfl ?_
  exact ⟨⟨_,_,_,_,_,_,joinN n noneN,noneN,rfl,KK.out,OO.out,.inl ⟨by rw [hL1.out]; exact HL.out,rfl,rfl⟩,FK.out,FO.out,UK.out,UO.out⟩,BB.out⟩
 ·rw [if_neg hl2]
  have h2 : Hid (2 <= L1):=by show _ <= _; omega
  have HMD : Hid (∀ (W : World),Below W3.heap.size W3 W -> Calls Tryz.prog 175 #[.agg #[.bool lf,.slice a1 L1 c1,.slice a2 L2 c2,.slice a3 L3 c3]] W fun e w' => (∃ m : Nat,e = .returned (.int .i64 (m : Int)) /\ MidR n m) /\ Below W.heap.size W w'):=fun W hb => by
   have:=zkm9 n _ _ _ W ((H.out.below BW3.out).below hb) HS.out (by rw [hL1.out]; exact h2.out)
   rw [hlf.out] at this
   exact this
  have HMB : Hid (∀ m,MidR n m -> m <= 9007199254740992):=fun m hm => by have:=hm.lt; have:=HS.out.kl; omega
  clear h hs H b2 b3 Y2 Z3
  go_enter Tryz.func158,Tryz.ntmps158
  go_wp2_with fail
  clear c0 c1' c2' c3'
  refine beginW (S:=fun w' => Nb w' 93 w.heap.size lf (.slice a1 L1 c1) (.slice a2 L2 c2) (.slice a3 L3 c3)) (t:=9) (by kernel_rfl) ?_
  have hS : Nb W3.drew 93 w.heap.size lf (.slice a1 L1 c1) (.slice a2 L2 c2) (.slice a3 L3 c3):=SS.out.1.below ((Below.refl _ _).drew)
  refine tkW 0 (some 15) (.fieldAddr 93 (.tmp 1) 0) (Value.pointer (some ⟨w.heap.size,0,none⟩)) (by rintro o ho w' _; go_simp) hS ?_
  simp only [Act.put,qa,qb,qc]
  refine tkW 1 (some 16) (.load 4 (.tmp 15)) (Value.bool lf) ?hy hS ?_
  case hy =>
   rintro o ho w' hA
   have q:=hA.c0
   go_simp
  simp only [Act.put,qa,qb,qc]
  refine tkW 2 (some 17) (.build 93 #[(0,.tmp 16)]) (nod lf (.slice none 0 0) (.slice none 0 0) (.slice none 0 0)) ?hy hS ?_
  case hy =>
   rintro o ho w' _
   unfold nod
   go_simp
  simp only [Act.put,qa,qb,qc]
  refine tkW 3 (some 18) (.fieldAddr 93 (.tmp 1) 0) (Value.pointer (some ⟨w.heap.size,0,none⟩)) (by rintro o ho w' _; go_simp) hS ?_
  simp only [Act.put,qa,qb,qc]
  refine tkW 4 (some 19) (.load 4 (.tmp 18)) (Value.bool lf) ?hy hS ?_
  case hy =>
   rintro o ho w' hA
   have q:=hA.c0
   go_simp
  simp only [Act.put,qa,qb,qc]
  refine tkW 5 (some 20) (.build 93 #[(0,.tmp 19)]) (nod lf (.slice none 0 0) (.slice none 0 0) (.slice none 0 0)) ?hy hS ?_
  case hy =>
   rintro o ho w' _
   unfold nod
   go_simp
  simp only [Act.put,qa,qb,qc]
  obtain ⟨X0,hX0⟩:=exN W3.drew
  have b0 : Below W3.heap.size W3 X0:=by rw [<- hX0]; exact (Below.refl _ _).drew
  rw [hX0] at hS ⊢
  have hS0:=hS
  have z0 : X0.heap.size = w.heap.size + 3:=by rw [<- hX0]; exact s3.out
  refine zcw9 6 7 (some 4) (.alloc 93) (some 5) (.alloc 93) rfl rfl (by kernel_rfl) ?_ ?_
  ·rintro o K hd ho hg hK
   refine zcj9 ho ?_
   rw [hd]
   obtain ⟨p,hp⟩:=exN X0.heap.size
   obtain ⟨X1,hX1⟩:=exN (X0.alloc (.cells #[.bool false,.slice none 0 0,.slice none 0 0,.slice none 0 0] 93))
   have bl0 : Below X0.heap.size X0 X1:=by rw [<- hX1]; exact za9 _ _
   have sz0 : X1.heap.size = p + 1:=by rw [<- hX1,<- hp]; simp
   have nbp : Nb X1 93 p false (.slice none 0 0) (.slice none 0 0) (.slice none 0 0):=by rw [<- hX1,<- hp]; exact nb_new _ _ _ _ _ _
   rw [hX1,hp]
   have hS1 : Nb X1 93 w.heap.size lf (.slice a1 L1 c1) (.slice a2 L2 c2) (.slice a3 L3 c3):=hS0.below bl0
   refine hK _ _ (fun _ => hS1) ?_
   clear ho hd hg hK
   simp only [Act.put,qa,qb,qc]
   refine rdW 7 (some 5) (.alloc 93) ?_
   rintro o K hd ho hg hK
   refine zcj9 ho ?_
   rw [hd]
   obtain ⟨q,hq⟩:=exN X1.heap.size
   obtain ⟨X2,hX2⟩:=exN (X1.alloc (.cells #[.bool false,.slice none 0 0,.slice none 0 0,.slice none 0 0] 93))
   have bl1 : Below X1.heap.size X1 X2:=by rw [<- hX2]; exact za9 _ _
   have sz1 : X2.heap.size = q + 1:=by rw [<- hX2,<- hq]; simp
   have nbq : Nb X2 93 q false (.slice none 0 0) (.slice none 0 0) (.slice none 0 0):=by rw [<- hX2,<- hq]; exact nb_new _ _ _ _ _ _
   rw [hX2,hq]
   have hS2 : Nb X2 93 w.heap.size lf (.slice a1 L1 c1) (.slice a2 L2 c2) (.slice a3 L3 c3):=hS1.below bl1
   refine hK _ _ (fun _ => hS2) ?_
   clear ho hd hg hK
   simp only [Act.put,qa,qb,qc]
   have nbp' : Nb X2 93 p false (.slice none 0 0) (.slice none 0 0) (.slice none 0 0):=nbp.below bl1
   have FR : p ≠ q /\ w.heap.size + 3 <= p /\ w.heap.size + 3 <= q /\ p < w.heap.size + 5 /\ q < w.heap.size + 5 /\ X2.heap.size = w.heap.size + 5:=by omega
   have nbP : Nb X2 93 p false (.slice none 0 0) (.slice none 0 0) (.slice none 0 0):=nbp'
   have nbQ : Nb X2 93 q false (.slice none 0 0) (.slice none 0 0) (.slice none 0 0):=nbq
   have SP0 : SpN W3 X2 w.heap.size p q lf false false (.slice a1 L1 c1) (.slice a2 L2 c2) (.slice a3 L3 c3) (.slice none 0 0) (.slice none 0 0) (.slice none 0 0) (.slice none 0 0) (.slice none 0 0) (.slice none 0 0):=⟨hS2,((SS.out.2.1.below b0).below bl0).below bl1,((SS.out.2.2.below b0).below bl0).below bl1,nbP,nbQ,(b0.trans (bl0.mono b0.size)).trans (bl1.mono (b0.trans (bl0.mono b0.size)).size),FR.1,FR.2.1,FR.2.2.1,FR.2.2.2.1,FR.2.2.2.2.1,s3.out,by omega⟩
   clear bl0 bl1 sz0 sz1 hX1 hX2 hp hq nbp nbq nbp' nbP nbQ hS1 hS2 FR b0 z0 hX0 hS hS0
   refine rdW 8 none (.store 93 (.tmp 4) (.tmp 17)) ?_
   rintro o K hd ho hg hK
   refine zaf9 ho rfl rfl SP0.pk ?_
   have SP1:=SP0.setp lf (x1:=.slice none 0 0) (x2:=.slice none 0 0) (x3:=.slice none 0 0)
   rw [hd]
   refine hK _ _ (fun _ => SP1.n) ?_
   clear ho hd hg hK
   simp only [Act.put,qa,qb,qc]
   refine rdW 9 none (.store 93 (.tmp 5) (.tmp 20)) ?_
   rintro o K hd ho hg hK
   refine zaf9 ho rfl rfl SP1.qk ?_
   have SP2:=SP1.setq lf (x1:=.slice none 0 0) (x2:=.slice none 0 0) (x3:=.slice none 0 0)
   rw [hd]
   refine hK _ _ (fun e => absurd rfl e) ?_
   refine doneW (by kernel_rfl) ?_ _
   clear ho hd hg hK SP0 SP1
   simp only [Act.put]
   have SQ:=hideN SP2
   revert SQ
   clear SP2
   generalize (((((((X2.setCell _ _).setCell _ _).setCell _ _).setCell _ _).setCell _ _).setCell _ _).setCell _ _).setCell _ _ = Y0
   intro SQ
   obtain ⟨p0,p1,p2,p3⟩:=SQ.out.cells
   go_wp2_with fail
   refine (HMD.out Y0 SQ.out.bl).mono ?_
   rintro e y0 ⟨⟨m,rfl,hm⟩,bl⟩
   have SA0:=hideN (SQ.out.below bl)
   have HMR:=hideN hm
   have hmb:=HMB.out m hm
   clear hm bl p0 p1 p2 p3 SQ
   have c0:=SA0.out.n.c1
   go_wp2_with fail
   refine (HCT1.out y0 m SA0.out.bl hmb).mono ?_
   rintro e x0 ⟨⟨v1,v2,rfl,r1,r2,nw⟩,bl⟩
   obtain ⟨k1a,k1c,ek⟩:=r1.long
   obtain ⟨o1a,o1c,eo⟩:=r2.long
   obtain ⟨k1l,hk1l⟩:=exH (((strs n.ks).take m).length)
   obtain ⟨o1l,ho1l⟩:=exH (((strs n.ks).drop m).length)
   rw [hk1l.out] at ek
   rw [ho1l.out] at eo
   subst ek eo
   have sb:=SA0.out.below bl
   have nk : Hid (∀ j,(Value.slice k1a k1l k1c).ownBlock = some j -> w.heap.size + 5 <= j):=fun j hj => zn2 SA0.out.zz (nw j (.inl hj)).1
   have no : Hid (∀ j,(Value.slice o1a o1l o1c).ownBlock = some j -> w.heap.size + 5 <= j):=fun j hj => zn2 SA0.out.zz (nw j (.inr hj)).1
   obtain ⟨t0,ht0⟩:=exN (x0.setCell ⟨p,1,none⟩ (.slice k1a k1l k1c))
   obtain ⟨y1,hy1⟩:=exN (t0.setCell ⟨q,1,none⟩ (.slice o1a o1l o1c))
   have q0:=sb.pk.c1
   have q1:=sb.pk.fz 1
   have q2 : t0.cell? ⟨q,1,none⟩ = some (.slice none 0 0):=by rw [<- ht0]; exact (sb.p1 _).qk.c1
   have q3 : t0.frozen? ⟨q,1,none⟩ = false:=by rw [<- ht0]; exact (sb.p1 _).qk.fz 1
   have SA1 : Hid (SpN W3 y1 w.heap.size p q lf lf lf (.slice a1 L1 c1) (.slice a2 L2 c2) (.slice a3 L3 c3) (.slice k1a k1l k1c) (.slice none 0 0) (.slice none 0 0) (.slice o1a o1l o1c) (.slice none 0 0) (.slice none 0 0)):=by rw [<- hy1,<- ht0]; exact (sb.p1 _).q1 _
   have RK1 : Hid ((RdV y1 (.slice k1a k1l k1c) ((strs n.ks).take m) /\ ∀ j,(Value.slice k1a k1l k1c).ownBlock = some j -> w.heap.size + 5 <= j) /\ ∀ j,(Value.slice k1a k1l k1c).ownBlock = some j -> j < y1.heap.size):=⟨⟨by rw [<- hy1,<- ht0]; exact sb.keep r1 nk.out,nk.out⟩,fun j hj => by rw [<- hy1,<- ht0]; exact zn1 (nw j (.inl hj)).2 (zn2 (tch_at _ _ _ _).size (tch_at _ _ _ _).size)⟩
   have RO1 : Hid ((RdV y1 (.slice o1a o1l o1c) ((strs n.ks).drop m) /\ ∀ j,(Value.slice o1a o1l o1c).ownBlock = some j -> w.heap.size + 5 <= j) /\ ∀ j,(Value.slice o1a o1l o1c).ownBlock = some j -> j < y1.heap.size):=⟨⟨by rw [<- hy1,<- ht0]; exact sb.keep r2 no.out,no.out⟩,fun j hj => by rw [<- hy1,<- ht0]; exact zn1 (nw j (.inr hj)).2 (zn2 (tch_at _ _ _ _).size (tch_at _ _ _ _).size)⟩
   clear r1 r2 nw bl sb nk no c0 SA0
   have c0:=SA1.out.n.c2
   go_wp2_with fail
   refine (HCT2.out y1 m SA1.out.bl hmb).mono ?_
   rintro e x1 ⟨⟨v1,v2,rfl,r1,r2,nw⟩,bl⟩
   obtain ⟨k2a,k2c,ek⟩:=r1.long
   obtain ⟨o2a,o2c,eo⟩:=r2.long
   obtain ⟨k2l,hk2l⟩:=exH (((strs n.vs).take m).length)
   obtain ⟨o2l,ho2l⟩:=exH (((strs n.vs).drop m).length)
   rw [hk2l.out] at ek
   rw [ho2l.out] at eo
   subst ek eo
   have sb:=SA1.out.below bl
   have nk : Hid (∀ j,(Value.slice k2a k2l k2c).ownBlock = some j -> w.heap.size + 5 <= j):=fun j hj => zn2 SA1.out.zz (nw j (.inl hj)).1
   have no : Hid (∀ j,(Value.slice o2a o2l o2c).ownBlock = some j -> w.heap.size + 5 <= j):=fun j hj => zn2 SA1.out.zz (nw j (.inr hj)).1
   obtain ⟨t1,ht1⟩:=exN (x1.setCell ⟨p,2,none⟩ (.slice k2a k2l k2c))
   obtain ⟨y2,hy2⟩:=exN (t1.setCell ⟨q,2,none⟩ (.slice o2a o2l o2c))
   have q0:=sb.pk.c2
   have q1:=sb.pk.fz 2
   have q2 : t1.cell? ⟨q,2,none⟩ = some (.slice none 0 0):=by rw [<- ht1]; exact (sb.p2 _).qk.c2
   have q3 : t1.frozen? ⟨q,2,none⟩ = false:=by rw [<- ht1]; exact (sb.p2 _).qk.fz 2
   have SA2 : Hid (SpN W3 y2 w.heap.size p q lf lf lf (.slice a1 L1 c1) (.slice a2 L2 c2) (.slice a3 L3 c3) (.slice k1a k1l k1c) (.slice k2a k2l k2c) (.slice none 0 0) (.slice o1a o1l o1c) (.slice o2a o2l o2c) (.slice none 0 0)):=by rw [<- hy2,<- ht1]; exact (sb.p2 _).q2 _
   have RK2 : Hid ((RdV y2 (.slice k2a k2l k2c) ((strs n.vs).take m) /\ ∀ j,(Value.slice k2a k2l k2c).ownBlock = some j -> w.heap.size + 5 <= j) /\ ∀ j,(Value.slice k2a k2l k2c).ownBlock = some j -> j < y2.heap.size):=⟨⟨by rw [<- hy2,<- ht1]; exact sb.keep r1 nk.out,nk.out⟩,fun j hj => by rw [<- hy2,<- ht1]; exact zn1 (nw j (.inl hj)).2 (zn2 (tch_at _ _ _ _).size (tch_at _ _ _ _).size)⟩
   have RO2 : Hid ((RdV y2 (.slice o2a o2l o2c) ((strs n.vs).drop m) /\ ∀ j,(Value.slice o2a o2l o2c).ownBlock = some j -> w.heap.size + 5 <= j) /\ ∀ j,(Value.slice o2a o2l o2c).ownBlock = some j -> j < y2.heap.size):=⟨⟨by rw [<- hy2,<- ht1]; exact sb.keep r2 no.out,no.out⟩,fun j hj => by rw [<- hy2,<- ht1]; exact zn1 (nw j (.inr hj)).2 (zn2 (tch_at _ _ _ _).size (tch_at _ _ _ _).size)⟩
   replace RK1:=hideN (show (RdV y2 (Value.slice k1a k1l k1c) _ /\ _) /\ (∀ j,(Value.slice k1a k1l k1c).ownBlock = some j -> j < y2.heap.size) from ⟨⟨by rw [<- hy2,<- ht1]; exact sb.keep (RK1.out.1.1.below bl) RK1.out.1.2,RK1.out.1.2⟩,fun j hj => by rw [<- hy2,<- ht1]; exact zn1 (RK1.out.2 j hj) (zn2 bl.size (zn2 (tch_at _ _ _ _).size (tch_at _ _ _ _).size))⟩)
   replace RO1:=hideN (show (RdV y2 (Value.slice o1a o1l o1c) _ /\ _) /\ (∀ j,(Value.slice o1a o1l o1c).ownBlock = some j -> j < y2.heap.size) from ⟨⟨by rw [<- hy2,<- ht1]; exact sb.keep (RO1.out.1.1.below bl) RO1.out.1.2,RO1.out.1.2⟩,fun j hj => by rw [<- hy2,<- ht1]; exact zn1 (RO1.out.2 j hj) (zn2 bl.size (zn2 (tch_at _ _ _ _).size (tch_at _ _ _ _).size))⟩)
   clear r1 r2 nw bl sb nk no c0 SA1
   have c0:=SA2.out.n.c3
   go_wp2_with fail
   refine (HCT3.out y2 m SA2.out.bl hmb).mono ?_
   rintro e x2 ⟨⟨v1,v2,rfl,r1,r2,nw⟩,bl⟩
   obtain ⟨k3a,k3c,ek⟩:=r1.long
   obtain ⟨o3a,o3c,eo⟩:=r2.long
   obtain ⟨k3l,hk3l⟩:=exH (((nums n.kd).take m).length)
   obtain ⟨o3l,ho3l⟩:=exH (((nums n.kd).drop m).length)
   rw [hk3l.out] at ek
   rw [ho3l.out] at eo
   subst ek eo
   have sb:=SA2.out.below bl
   have nk : Hid (∀ j,(Value.slice k3a k3l k3c).ownBlock = some j -> w.heap.size + 5 <= j):=fun j hj => zn2 SA2.out.zz (nw j (.inl hj)).1
   have no : Hid (∀ j,(Value.slice o3a o3l o3c).ownBlock = some j -> w.heap.size + 5 <= j):=fun j hj => zn2 SA2.out.zz (nw j (.inr hj)).1
   obtain ⟨t2,ht2⟩:=exN (x2.setCell ⟨p,3,none⟩ (.slice k3a k3l k3c))
   obtain ⟨y3,hy3⟩:=exN (t2.setCell ⟨q,3,none⟩ (.slice o3a o3l o3c))
   have q0:=sb.pk.c3
   have q1:=sb.pk.fz 3
   have q2 : t2.cell? ⟨q,3,none⟩ = some (.slice none 0 0):=by rw [<- ht2]; exact (sb.p3 _).qk.c3
   have q3 : t2.frozen? ⟨q,3,none⟩ = false:=by rw [<- ht2]; exact (sb.p3 _).qk.fz 3
   have SA3 : Hid (SpN W3 y3 w.heap.size p q lf lf lf (.slice a1 L1 c1) (.slice a2 L2 c2) (.slice a3 L3 c3) (.slice k1a k1l k1c) (.slice k2a k2l k2c) (.slice k3a k3l k3c) (.slice o1a o1l o1c) (.slice o2a o2l o2c) (.slice o3a o3l o3c)):=by rw [<- hy3,<- ht2]; exact (sb.p3 _).q3 _
   have RK3 : Hid ((RdV y3 (.slice k3a k3l k3c) ((nums n.kd).take m) /\ ∀ j,(Value.slice k3a k3l k3c).ownBlock = some j -> w.heap.size + 5 <= j) /\ ∀ j,(Value.slice k3a k3l k3c).ownBlock = some j -> j < y3.heap.size):=⟨⟨by rw [<- hy3,<- ht2]; exact sb.keep r1 nk.out,nk.out⟩,fun j hj => by rw [<- hy3,<- ht2]; exact zn1 (nw j (.inl hj)).2 (zn2 (tch_at _ _ _ _).size (tch_at _ _ _ _).size)⟩
   have RO3 : Hid ((RdV y3 (.slice o3a o3l o3c) ((nums n.kd).drop m) /\ ∀ j,(Value.slice o3a o3l o3c).ownBlock = some j -> w.heap.size + 5 <= j) /\ ∀ j,(Value.slice o3a o3l o3c).ownBlock = some j -> j < y3.heap.size):=⟨⟨by rw [<- hy3,<- ht2]; exact sb.keep r2 no.out,no.out⟩,fun j hj => by rw [<- hy3,<- ht2]; exact zn1 (nw j (.inr hj)).2 (zn2 (tch_at _ _ _ _).size (tch_at _ _ _ _).size)⟩
   replace RK1:=hideN (show (RdV y3 (Value.slice k1a k1l k1c) _ /\ _) /\ (∀ j,(Value.slice k1a k1l k1c).ownBlock = some j -> j < y3.heap.size) from ⟨⟨by rw [<- hy3,<- ht2]; exact sb.keep (RK1.out.1.1.below bl) RK1.out.1.2,RK1.out.1.2⟩,fun j hj => by rw [<- hy3,<- ht2]; exact zn1 (RK1.out.2 j hj) (zn2 bl.size (zn2 (tch_at _ _ _ _).size (tch_at _ _ _ _).size))⟩)
   replace RO1:=hideN (show (RdV y3 (Value.slice o1a o1l o1c) _ /\ _) /\ (∀ j,(Value.slice o1a o1l o1c).ownBlock = some j -> j < y3.heap.size) from ⟨⟨by rw [<- hy3,<- ht2]; exact sb.keep (RO1.out.1.1.below bl) RO1.out.1.2,RO1.out.1.2⟩,fun j hj => by rw [<- hy3,<- ht2]; exact zn1 (RO1.out.2 j hj) (zn2 bl.size (zn2 (tch_at _ _ _ _).size (tch_at _ _ _ _).size))⟩)
   replace RK2:=hideN (show (RdV y3 (Value.slice k2a k2l k2c) _ /\ _) /\ (∀ j,(Value.slice k2a k2l k2c).ownBlock = some j -> j < y3.heap.size) from ⟨⟨by rw [<- hy3,<- ht2]; exact sb.keep (RK2.out.1.1.below bl) RK2.out.1.2,RK2.out.1.2⟩,fun j hj => by rw [<- hy3,<- ht2]; exact zn1 (RK2.out.2 j hj) (zn2 bl.size (zn2 (tch_at _ _ _ _).size (tch_at _ _ _ _).size))⟩)
   replace RO2:=hideN (show (RdV y3 (Value.slice o2a o2l o2c) _ /\ _) /\ (∀ j,(Value.slice o2a o2l o2c).ownBlock = some j -> j < y3.heap.size) from ⟨⟨by rw [<- hy3,<- ht2]; exact sb.keep (RO2.out.1.1.below bl) RO2.out.1.2,RO2.out.1.2⟩,fun j hj => by rw [<- hy3,<- ht2]; exact zn1 (RO2.out.2 j hj) (zn2 bl.size (zn2 (tch_at _ _ _ _).size (tch_at _ _ _ _).size))⟩)
   clear r1 r2 nw bl sb nk no c0 SA2
   go_wp2_with fail
   try rw [hy3]
   clear q0 q1 q2 q3
   refine beginW (S:=fun w' => Nb w' 93 p lf (.slice k1a k1l k1c) (.slice k2a k2l k2c) (.slice k3a k3l k3c) /\ Nb w' 93 q lf (.slice o1a o1l o1c) (.slice o2a o2l o2c) (.slice o3a o3l o3c)) (t:=3) (by kernel_rfl) ?_
   have SD:=SA3.out.below ((Below.refl _ _).drew)
   have hS : Nb y3.drew 93 p lf (.slice k1a k1l k1c) (.slice k2a k2l k2c) (.slice k3a k3l k3c) /\ Nb y3.drew 93 q lf (.slice o1a o1l o1c) (.slice o2a o2l o2c) (.slice o3a o3l o3c):=⟨SD.pk,SD.qk⟩
   refine tkW 0 (some 50) (.load 93 (.tmp 4)) (nod lf (.slice k1a k1l k1c) (.slice k2a k2l k2c) (.slice k3a k3l k3c)) ?hy hS ?_
   case hy =>
    rintro o ho w' ⟨hA,hB⟩
    have q0:=hA.c0; have q1:=hA.c1; have q2:=hA.c2; have q3:=hA.c3
    unfold nod
    go_simp
   simp only [Act.put,qa,qb,qc]
   refine tkW 1 (some 51) (.load 93 (.tmp 5)) (nod lf (.slice o1a o1l o1c) (.slice o2a o2l o2c) (.slice o3a o3l o3c)) ?hy hS ?_
   case hy =>
    rintro o ho w' ⟨hA,hB⟩
    have q0:=hB.c0; have q1:=hB.c1; have q2:=hB.c2; have q3:=hB.c3
    unfold nod
    go_simp
   simp only [Act.put,qa,qb,qc]
   refine rdW 2 none (.store 93 (.tmp 2) (.tmp 50)) ?_
   rintro o K hd ho hg hK
   refine zaf9 ho rfl rfl SD.r2 ?_
   rw [hd]
   have tA:=zp9 y3.drew (w.heap.size + 1) (.bool lf) (.slice k1a k1l k1c) (.slice k2a k2l k2c) (.slice k3a k3l k3c)
   have NA:=SD.r2.all lf (.slice k1a k1l k1c) (.slice k2a k2l k2c) (.slice k3a k3l k3c)
   have pA:=SD.pk.tch tA (by have:=SD.pl; omega)
   have qA:=SD.qk.tch tA (by have:=SD.ql; omega)
   have rA:=SD.r3.tch tA (by omega)
   refine hK _ _ (fun _ => ⟨pA,qA⟩) ?_
   clear ho hd hg hK
   simp only [Act.put,qa,qb,qc]
   refine rdW 3 none (.store 93 (.tmp 3) (.tmp 51)) ?_
   rintro o K hd ho hg hK
   refine zaf9 ho rfl rfl rA ?_
   rw [hd]
   refine hK _ _ (fun e => absurd rfl e) ?_
   refine doneW (by kernel_rfl) ?_ _
   clear ho hd hg hK
   simp only [Act.put]
   generalize hWA : (((y3.drew.setCell ⟨w.heap.size + 1,0,none⟩ (.bool lf)).setCell ⟨w.heap.size + 1,1,none⟩ (.slice k1a k1l k1c)).setCell ⟨w.heap.size + 1,2,none⟩ (.slice k2a k2l k2c)).setCell ⟨w.heap.size + 1,3,none⟩ (.slice k3a k3l k3c) = WA at *
   have tB:=zp9 WA (w.heap.size + 2) (.bool lf) (.slice o1a o1l o1c) (.slice o2a o2l o2c) (.slice o3a o3l o3c)
   have NB:=rA.all lf (.slice o1a o1l o1c) (.slice o2a o2l o2c) (.slice o3a o3l o3c)
   have NC:=NA.tch tB (by omega)
   generalize hWB : (((WA.setCell ⟨w.heap.size + 2,0,none⟩ (.bool lf)).setCell ⟨w.heap.size + 2,1,none⟩ (.slice o1a o1l o1c)).setCell ⟨w.heap.size + 2,2,none⟩ (.slice o2a o2l o2c)).setCell ⟨w.heap.size + 2,3,none⟩ (.slice o3a o3l o3c) = WB at *
   have bD : Below y3.heap.size y3 y3.drew:=(Below.refl _ _).drew
   have kp : ∀ v xs,(RdV y3 v xs /\ ∀ j,v.ownBlock = some j -> w.heap.size + 5 <= j) -> RdV WB v xs:=fun v xs h => ((h.1.below bD).tch tA (fun j hj e => by have:=h.2 j hj; omega)).tch tB (fun j hj e => by have:=h.2 j hj; omega)
   have KK : Hid (Nn WB (takeN n m) (.slice k1a k1l k1c) (.slice k2a k2l k2c) (.slice k3a k3l k3c)):=⟨by have:=kp _ _ RK1.out.1; simpa [takeN,strs,List.map_take] using this,by have:=kp _ _ RK2.out.1; simpa [takeN,strs,List.map_take] using this,by have:=kp _ _ RK3.out.1; simpa [takeN,nums,List.map_take] using this⟩
   have OO : Hid (Nn WB (dropN n m) (.slice o1a o1l o1c) (.slice o2a o2l o2c) (.slice o3a o3l o3c)):=⟨by have:=kp _ _ RO1.out.1; simpa [dropN,strs,List.map_drop] using this,by have:=kp _ _ RO2.out.1; simpa [dropN,strs,List.map_drop] using this,by have:=kp _ _ RO3.out.1; simpa [dropN,nums,List.map_drop] using this⟩
   have BB : Hid (Below w.heap.size w WB):=by
    have h1 : Below w.heap.size w y3.drew:=BW3.out.trans (SD.bl.mono BW3.out.size)
    have h2 : Below w.heap.size w WA:=h1.trans (tA.below h1.size (fun j e => by omega))
    exact h2.trans (tB.below h2.size (fun j e => by omega))
   have FK : Hid (Fr3 w.heap.size (.slice k1a k1l k1c) (.slice k2a k2l k2c) (.slice k3a k3l k3c)):=fun j hj => by
    rcases hj with e | e | e
    ·have:=RK1.out.1.2 j e; omega
    ·have:=RK2.out.1.2 j e; omega
    ·have:=RK3.out.1.2 j e; omega
   have FO : Hid (Fr3 w.heap.size (.slice o1a o1l o1c) (.slice o2a o2l o2c) (.slice o3a o3l o3c)):=fun j hj => by
    rcases hj with e | e | e
    ·have:=RO1.out.1.2 j e; omega
    ·have:=RO2.out.1.2 j e; omega
    ·have:=RO3.out.1.2 j e; omega
   have UK : Hid (Ub3 WB (.slice k1a k1l k1c) (.slice k2a k2l k2c) (.slice k3a k3l k3c)):=fun j hj => by
    refine zn1 ?_ (zn2 bD.size (zn2 tA.size tB.size))
    rcases hj with e | e | e
    ·exact RK1.out.2 j e
    ·exact RK2.out.2 j e
    ·exact RK3.out.2 j e
   have UO : Hid (Ub3 WB (.slice o1a o1l o1c) (.slice o2a o2l o2c) (.slice o3a o3l o3c)):=fun j hj => by
    refine zn1 ?_ (zn2 bD.size (zn2 tA.size tB.size))
    rcases hj with e | e | e
    ·exact RO1.out.2 j e
    ·exact RO2.out.2 j e
    ·exact RO3.out.2 j e
   have LA:=hideN NC.load
   have LB:=hideN NB.load
   clear tA tB NA NB NC pA qA rA hWA hWB bD kp SD hS
   go_wp2_with fail
   refine bodyPost_ret (v:=.tuple #[nod lf (.slice k1a k1l k1c) (.slice k2a k2l k2c) (.slice k3a k3l k3c),nod lf (.slice o1a o1l o1c) (.slice o2a o2l o2c) (.slice o3a o3l o3c)]) (zbx9 (p:=2) (q:=3) (ty:=93) (tz:=93) rfl _ _ _ (w.heap.size + 1) (w.heap.size + 2) _ _ rfl rfl LA.out LB.out) rfl ?_
   exact ⟨⟨_,_,_,_,_,_,takeN n m,dropN n m,rfl,KK.out,OO.out,.inr ⟨by rw [hL1.out]; exact h2.out,m,HMR.out,rfl,rfl⟩,FK.out,FO.out,UK.out,UO.out⟩,BB.out⟩
  ·rintro o K hd ho hg hK
   refine zcj9 ho ?_
   rw [hd]
   obtain ⟨q,hq⟩:=exN X0.heap.size
   obtain ⟨X1,hX1⟩:=exN (X0.alloc (.cells #[.bool false,.slice none 0 0,.slice none 0 0,.slice none 0 0] 93))
   have bl0 : Below X0.heap.size X0 X1:=by rw [<- hX1]; exact za9 _ _
   have sz0 : X1.heap.size = q + 1:=by rw [<- hX1,<- hq]; simp
   have nbq : Nb X1 93 q false (.slice none 0 0) (.slice none 0 0) (.slice none 0 0):=by rw [<- hX1,<- hq]; exact nb_new _ _ _ _ _ _
   rw [hX1,hq]
   have hS1 : Nb X1 93 w.heap.size lf (.slice a1 L1 c1) (.slice a2 L2 c2) (.slice a3 L3 c3):=hS0.below bl0
   refine hK _ _ (fun _ => hS1) ?_
   clear ho hd hg hK
   simp only [Act.put,qa,qb,qc]
   refine rdW 6 (some 4) (.alloc 93) ?_
   rintro o K hd ho hg hK
   refine zcj9 ho ?_
   rw [hd]
   obtain ⟨p,hp⟩:=exN X1.heap.size
   obtain ⟨X2,hX2⟩:=exN (X1.alloc (.cells #[.bool false,.slice none 0 0,.slice none 0 0,.slice none 0 0] 93))
   have bl1 : Below X1.heap.size X1 X2:=by rw [<- hX2]; exact za9 _ _
   have sz1 : X2.heap.size = p + 1:=by rw [<- hX2,<- hp]; simp
   have nbp : Nb X2 93 p false (.slice none 0 0) (.slice none 0 0) (.slice none 0 0):=by rw [<- hX2,<- hp]; exact nb_new _ _ _ _ _ _
   rw [hX2,hp]
   have hS2 : Nb X2 93 w.heap.size lf (.slice a1 L1 c1) (.slice a2 L2 c2) (.slice a3 L3 c3):=hS1.below bl1
   refine hK _ _ (fun _ => hS2) ?_
   clear ho hd hg hK
   simp only [Act.put,qa,qb,qc]
   have nbq' : Nb X2 93 q false (.slice none 0 0) (.slice none 0 0) (.slice none 0 0):=nbq.below bl1
   have FR : p ≠ q /\ w.heap.size + 3 <= p /\ w.heap.size + 3 <= q /\ p < w.heap.size + 5 /\ q < w.heap.size + 5 /\ X2.heap.size = w.heap.size + 5:=by omega
   have nbP : Nb X2 93 p false (.slice none 0 0) (.slice none 0 0) (.slice none 0 0):=nbp
   have nbQ : Nb X2 93 q false (.slice none 0 0) (.slice none 0 0) (.slice none 0 0):=nbq'
   have SP0 : SpN W3 X2 w.heap.size p q lf false false (.slice a1 L1 c1) (.slice a2 L2 c2) (.slice a3 L3 c3) (.slice none 0 0) (.slice none 0 0) (.slice none 0 0) (.slice none 0 0) (.slice none 0 0) (.slice none 0 0):=⟨hS2,((SS.out.2.1.below b0).below bl0).below bl1,((SS.out.2.2.below b0).below bl0).below bl1,nbP,nbQ,(b0.trans (bl0.mono b0.size)).trans (bl1.mono (b0.trans (bl0.mono b0.size)).size),FR.1,FR.2.1,FR.2.2.1,FR.2.2.2.1,FR.2.2.2.2.1,s3.out,by omega⟩
   clear bl0 bl1 sz0 sz1 hX1 hX2 hp hq nbp nbq nbq' nbP nbQ hS1 hS2 FR b0 z0 hX0 hS hS0
   refine rdW 8 none (.store 93 (.tmp 4) (.tmp 17)) ?_
   rintro o K hd ho hg hK
   refine zaf9 ho rfl rfl SP0.pk ?_
   have SP1:=SP0.setp lf (x1:=.slice none 0 0) (x2:=.slice none 0 0) (x3:=.slice none 0 0)
   rw [hd]
   refine hK _ _ (fun _ => SP1.n) ?_
   clear ho hd hg hK
   simp only [Act.put,qa,qb,qc]
   refine rdW 9 none (.store 93 (.tmp 5) (.tmp 20)) ?_
   rintro o K hd ho hg hK
   refine zaf9 ho rfl rfl SP1.qk ?_
   have SP2:=SP1.setq lf (x1:=.slice none 0 0) (x2:=.slice none 0 0) (x3:=.slice none 0 0)
   rw [hd]
   refine hK _ _ (fun e => absurd rfl e) ?_
   refine doneW (by kernel_rfl) ?_ _
   clear ho hd hg hK SP0 SP1
   simp only [Act.put]
   have SQ:=hideN SP2
   revert SQ
   clear SP2
   generalize (((((((X2.setCell _ _).setCell _ _).setCell _ _).setCell _ _).setCell _ _).setCell _ _).setCell _ _).setCell _ _ = Y0
   intro SQ
   obtain ⟨p0,p1,p2,p3⟩:=SQ.out.cells
   go_wp2_with fail
   refine (HMD.out Y0 SQ.out.bl).mono ?_
   rintro e y0 ⟨⟨m,rfl,hm⟩,bl⟩
   have SA0:=hideN (SQ.out.below bl)
   have HMR:=hideN hm
   have hmb:=HMB.out m hm
   clear hm bl p0 p1 p2 p3 SQ
   have c0:=SA0.out.n.c1
   go_wp2_with fail
   refine (HCT1.out y0 m SA0.out.bl hmb).mono ?_
   rintro e x0 ⟨⟨v1,v2,rfl,r1,r2,nw⟩,bl⟩
   obtain ⟨k1a,k1c,ek⟩:=r1.long
   obtain ⟨o1a,o1c,eo⟩:=r2.long
   obtain ⟨k1l,hk1l⟩:=exH (((strs n.ks).take m).length)
   obtain ⟨o1l,ho1l⟩:=exH (((strs n.ks).drop m).length)
   rw [hk1l.out] at ek
   rw [ho1l.out] at eo
   subst ek eo
   have sb:=SA0.out.below bl
   have nk : Hid (∀ j,(Value.slice k1a k1l k1c).ownBlock = some j -> w.heap.size + 5 <= j):=fun j hj => zn2 SA0.out.zz (nw j (.inl hj)).1
   have no : Hid (∀ j,(Value.slice o1a o1l o1c).ownBlock = some j -> w.heap.size + 5 <= j):=fun j hj => zn2 SA0.out.zz (nw j (.inr hj)).1
   obtain ⟨t0,ht0⟩:=exN (x0.setCell ⟨p,1,none⟩ (.slice k1a k1l k1c))
   obtain ⟨y1,hy1⟩:=exN (t0.setCell ⟨q,1,none⟩ (.slice o1a o1l o1c))
   have q0:=sb.pk.c1
   have q1:=sb.pk.fz 1
   have q2 : t0.cell? ⟨q,1,none⟩ = some (.slice none 0 0):=by rw [<- ht0]; exact (sb.p1 _).qk.c1
   have q3 : t0.frozen? ⟨q,1,none⟩ = false:=by rw [<- ht0]; exact (sb.p1 _).qk.fz 1
   have SA1 : Hid (SpN W3 y1 w.heap.size p q lf lf lf (.slice a1 L1 c1) (.slice a2 L2 c2) (.slice a3 L3 c3) (.slice k1a k1l k1c) (.slice none 0 0) (.slice none 0 0) (.slice o1a o1l o1c) (.slice none 0 0) (.slice none 0 0)):=by rw [<- hy1,<- ht0]; exact (sb.p1 _).q1 _
   have RK1 : Hid ((RdV y1 (.slice k1a k1l k1c) ((strs n.ks).take m) /\ ∀ j,(Value.slice k1a k1l k1c).ownBlock = some j -> w.heap.size + 5 <= j) /\ ∀ j,(Value.slice k1a k1l k1c).ownBlock = some j -> j < y1.heap.size):=⟨⟨by rw [<- hy1,<- ht0]; exact sb.keep r1 nk.out,nk.out⟩,fun j hj => by rw [<- hy1,<- ht0]; exact zn1 (nw j (.inl hj)).2 (zn2 (tch_at _ _ _ _).size (tch_at _ _ _ _).size)⟩
   have RO1 : Hid ((RdV y1 (.slice o1a o1l o1c) ((strs n.ks).drop m) /\ ∀ j,(Value.slice o1a o1l o1c).ownBlock = some j -> w.heap.size + 5 <= j) /\ ∀ j,(Value.slice o1a o1l o1c).ownBlock = some j -> j < y1.heap.size):=⟨⟨by rw [<- hy1,<- ht0]; exact sb.keep r2 no.out,no.out⟩,fun j hj => by rw [<- hy1,<- ht0]; exact zn1 (nw j (.inr hj)).2 (zn2 (tch_at _ _ _ _).size (tch_at _ _ _ _).size)⟩
   clear r1 r2 nw bl sb nk no c0 SA0
   have c0:=SA1.out.n.c2
   go_wp2_with fail
   refine (HCT2.out y1 m SA1.out.bl hmb).mono ?_
   rintro e x1 ⟨⟨v1,v2,rfl,r1,r2,nw⟩,bl⟩
   obtain ⟨k2a,k2c,ek⟩:=r1.long
   obtain ⟨o2a,o2c,eo⟩:=r2.long
   obtain ⟨k2l,hk2l⟩:=exH (((strs n.vs).take m).length)
   obtain ⟨o2l,ho2l⟩:=exH (((strs n.vs).drop m).length)
   rw [hk2l.out] at ek
   rw [ho2l.out] at eo
   subst ek eo
   have sb:=SA1.out.below bl
   have nk : Hid (∀ j,(Value.slice k2a k2l k2c).ownBlock = some j -> w.heap.size + 5 <= j):=fun j hj => zn2 SA1.out.zz (nw j (.inl hj)).1
   have no : Hid (∀ j,(Value.slice o2a o2l o2c).ownBlock = some j -> w.heap.size + 5 <= j):=fun j hj => zn2 SA1.out.zz (nw j (.inr hj)).1
   obtain ⟨t1,ht1⟩:=exN (x1.setCell ⟨p,2,none⟩ (.slice k2a k2l k2c))
   obtain ⟨y2,hy2⟩:=exN (t1.setCell ⟨q,2,none⟩ (.slice o2a o2l o2c))
   have q0:=sb.pk.c2
   have q1:=sb.pk.fz 2
   have q2 : t1.cell? ⟨q,2,none⟩ = some (.slice none 0 0):=by rw [<- ht1]; exact (sb.p2 _).qk.c2
   have q3 : t1.frozen? ⟨q,2,none⟩ = false:=by rw [<- ht1]; exact (sb.p2 _).qk.fz 2
   have SA2 : Hid (SpN W3 y2 w.heap.size p q lf lf lf (.slice a1 L1 c1) (.slice a2 L2 c2) (.slice a3 L3 c3) (.slice k1a k1l k1c) (.slice k2a k2l k2c) (.slice none 0 0) (.slice o1a o1l o1c) (.slice o2a o2l o2c) (.slice none 0 0)):=by rw [<- hy2,<- ht1]; exact (sb.p2 _).q2 _
   have RK2 : Hid ((RdV y2 (.slice k2a k2l k2c) ((strs n.vs).take m) /\ ∀ j,(Value.slice k2a k2l k2c).ownBlock = some j -> w.heap.size + 5 <= j) /\ ∀ j,(Value.slice k2a k2l k2c).ownBlock = some j -> j < y2.heap.size):=⟨⟨by rw [<- hy2,<- ht1]; exact sb.keep r1 nk.out,nk.out⟩,fun j hj => by rw [<- hy2,<- ht1]; exact zn1 (nw j (.inl hj)).2 (zn2 (tch_at _ _ _ _).size (tch_at _ _ _ _).size)⟩
   have RO2 : Hid ((RdV y2 (.slice o2a o2l o2c) ((strs n.vs).drop m) /\ ∀ j,(Value.slice o2a o2l o2c).ownBlock = some j -> w.heap.size + 5 <= j) /\ ∀ j,(Value.slice o2a o2l o2c).ownBlock = some j -> j < y2.heap.size):=⟨⟨by rw [<- hy2,<- ht1]; exact sb.keep r2 no.out,no.out⟩,fun j hj => by rw [<- hy2,<- ht1]; exact zn1 (nw j (.inr hj)).2 (zn2 (tch_at _ _ _ _).size (tch_at _ _ _ _).size)⟩
   replace RK1:=hideN (show (RdV y2 (Value.slice k1a k1l k1c) _ /\ _) /\ (∀ j,(Value.slice k1a k1l k1c).ownBlock = some j -> j < y2.heap.size) from ⟨⟨by rw [<- hy2,<- ht1]; exact sb.keep (RK1.out.1.1.below bl) RK1.out.1.2,RK1.out.1.2⟩,fun j hj => by rw [<- hy2,<- ht1]; exact zn1 (RK1.out.2 j hj) (zn2 bl.size (zn2 (tch_at _ _ _ _).size (tch_at _ _ _ _).size))⟩)
   replace RO1:=hideN (show (RdV y2 (Value.slice o1a o1l o1c) _ /\ _) /\ (∀ j,(Value.slice o1a o1l o1c).ownBlock = some j -> j < y2.heap.size) from ⟨⟨by rw [<- hy2,<- ht1]; exact sb.keep (RO1.out.1.1.below bl) RO1.out.1.2,RO1.out.1.2⟩,fun j hj => by rw [<- hy2,<- ht1]; exact zn1 (RO1.out.2 j hj) (zn2 bl.size (zn2 (tch_at _ _ _ _).size (tch_at _ _ _ _).size))⟩)
   clear r1 r2 nw bl sb nk no c0 SA1
   have c0:=SA2.out.n.c3
   go_wp2_with fail
   refine (HCT3.out y2 m SA2.out.bl hmb).mono ?_
   rintro e x2 ⟨⟨v1,v2,rfl,r1,r2,nw⟩,bl⟩
   obtain ⟨k3a,k3c,ek⟩:=r1.long
   obtain ⟨o3a,o3c,eo⟩:=r2.long
   obtain ⟨k3l,hk3l⟩:=exH (((nums n.kd).take m).length)
   obtain ⟨o3l,ho3l⟩:=exH (((nums n.kd).drop m).length)
   rw [hk3l.out] at ek
   rw [ho3l.out] at eo
   subst ek eo
   have sb:=SA2.out.below bl
   have nk : Hid (∀ j,(Value.slice k3a k3l k3c).ownBlock = some j -> w.heap.size + 5 <= j):=fun j hj => zn2 SA2.out.zz (nw j (.inl hj)).1
   have no : Hid (∀ j,(Value.slice o3a o3l o3c).ownBlock = some j -> w.heap.size + 5 <= j):=fun j hj => zn2 SA2.out.zz (nw j (.inr hj)).1
   obtain ⟨t2,ht2⟩:=exN (x2.setCell ⟨p,3,none⟩ (.slice k3a k3l k3c))
   obtain ⟨y3,hy3⟩:=exN (t2.setCell ⟨q,3,none⟩ (.slice o3a o3l o3c))
   have q0:=sb.pk.c3
   have q1:=sb.pk.fz 3
   have q2 : t2.cell? ⟨q,3,none⟩ = some (.slice none 0 0):=by rw [<- ht2]; exact (sb.p3 _).qk.c3
   have q3 : t2.frozen? ⟨q,3,none⟩ = false:=by rw [<- ht2]; exact (sb.p3 _).qk.fz 3
   have SA3 : Hid (SpN W3 y3 w.heap.size p q lf lf lf (.slice a1 L1 c1) (.slice a2 L2 c2) (.slice a3 L3 c3) (.slice k1a k1l k1c) (.slice k2a k2l k2c) (.slice k3a k3l k3c) (.slice o1a o1l o1c) (.slice o2a o2l o2c) (.slice o3a o3l o3c)):=by rw [<- hy3,<- ht2]; exact (sb.p3 _).q3 _
   have RK3 : Hid ((RdV y3 (.slice k3a k3l k3c) ((nums n.kd).take m) /\ ∀ j,(Value.slice k3a k3l k3c).ownBlock = some j -> w.heap.size + 5 <= j) /\ ∀ j,(Value.slice k3a k3l k3c).ownBlock = some j -> j < y3.heap.size):=⟨⟨by rw [<- hy3,<- ht2]; exact sb.keep r1 nk.out,nk.out⟩,fun j hj => by rw [<- hy3,<- ht2]; exact zn1 (nw j (.inl hj)).2 (zn2 (tch_at _ _ _ _).size (tch_at _ _ _ _).size)⟩
   have RO3 : Hid ((RdV y3 (.slice o3a o3l o3c) ((nums n.kd).drop m) /\ ∀ j,(Value.slice o3a o3l o3c).ownBlock = some j -> w.heap.size + 5 <= j) /\ ∀ j,(Value.slice o3a o3l o3c).ownBlock = some j -> j < y3.heap.size):=⟨⟨by rw [<- hy3,<- ht2]; exact sb.keep r2 no.out,no.out⟩,fun j hj => by rw [<- hy3,<- ht2]; exact zn1 (nw j (.inr hj)).2 (zn2 (tch_at _ _ _ _).size (tch_at _ _ _ _).size)⟩
   replace RK1:=hideN (show (RdV y3 (Value.slice k1a k1l k1c) _ /\ _) /\ (∀ j,(Value.slice k1a k1l k1c).ownBlock = some j -> j < y3.heap.size) from ⟨⟨by rw [<- hy3,<- ht2]; exact sb.keep (RK1.out.1.1.below bl) RK1.out.1.2,RK1.out.1.2⟩,fun j hj => by rw [<- hy3,<- ht2]; exact zn1 (RK1.out.2 j hj) (zn2 bl.size (zn2 (tch_at _ _ _ _).size (tch_at _ _ _ _).size))⟩)
   replace RO1:=hideN (show (RdV y3 (Value.slice o1a o1l o1c) _ /\ _) /\ (∀ j,(Value.slice o1a o1l o1c).ownBlock = some j -> j < y3.heap.size) from ⟨⟨by rw [<- hy3,<- ht2]; exact sb.keep (RO1.out.1.1.below bl) RO1.out.1.2,RO1.out.1.2⟩,fun j hj => by rw [<- hy3,<- ht2]; exact zn1 (RO1.out.2 j hj) (zn2 bl.size (zn2 (tch_at _ _ _ _).size (tch_at _ _ _ _).size))⟩)
   replace RK2:=hideN (show (RdV y3 (Value.slice k2a k2l k2c) _ /\ _) /\ (∀ j,(Value.slice k2a k2l k2c).ownBlock = some j -> j < y3.heap.size) from ⟨⟨by rw [<- hy3,<- ht2]; exact sb.keep (RK2.out.1.1.below bl) RK2.out.1.2,RK2.out.1.2⟩,fun j hj => by rw [<- hy3,<- ht2]; exact zn1 (RK2.out.2 j hj) (zn2 bl.size (zn2 (tch_at _ _ _ _).size (tch_at _ _ _ _).size))⟩)
   replace RO2:=hideN (show (RdV y3 (Value.slice o2a o2l o2c) _ /\ _) /\ (∀ j,(Value.slice o2a o2l o2c).ownBlock = some j -> j < y3.heap.size) from ⟨⟨by rw [<- hy3,<- ht2]; exact sb.keep (RO2.out.1.1.below bl) RO2.out.1.2,RO2.out.1.2⟩,fun j hj => by rw [<- hy3,<- ht2]; exact zn1 (RO2.out.2 j hj) (zn2 bl.size (zn2 (tch_at _ _ _ _).size (tch_at _ _ _ _).size))⟩)
   clear r1 r2 nw bl sb nk no c0 SA2
   go_wp2_with fail
   try rw [hy3]
   clear q0 q1 q2 q3
   refine beginW (S:=fun w' => Nb w' 93 p lf (.slice k1a k1l k1c) (.slice k2a k2l k2c) (.slice k3a k3l k3c) /\ Nb w' 93 q lf (.slice o1a o1l o1c) (.slice o2a o2l o2c) (.slice o3a o3l o3c)) (t:=3) (by kernel_rfl) ?_
   have SD:=SA3.out.below ((Below.refl _ _).drew)
   have hS : Nb y3.drew 93 p lf (.slice k1a k1l k1c) (.slice k2a k2l k2c) (.slice k3a k3l k3c) /\ Nb y3.drew 93 q lf (.slice o1a o1l o1c) (.slice o2a o2l o2c) (.slice o3a o3l o3c):=⟨SD.pk,SD.qk⟩
   refine tkW 0 (some 50) (.load 93 (.tmp 4)) (nod lf (.slice k1a k1l k1c) (.slice k2a k2l k2c) (.slice k3a k3l k3c)) ?hy hS ?_
   case hy =>
    rintro o ho w' ⟨hA,hB⟩
    have q0:=hA.c0; have q1:=hA.c1; have q2:=hA.c2; have q3:=hA.c3
    unfold nod
    go_simp
   simp only [Act.put,qa,qb,qc]
   refine tkW 1 (some 51) (.load 93 (.tmp 5)) (nod lf (.slice o1a o1l o1c) (.slice o2a o2l o2c) (.slice o3a o3l o3c)) ?hy hS ?_
   case hy =>
    rintro o ho w' ⟨hA,hB⟩
    have q0:=hB.c0; have q1:=hB.c1; have q2:=hB.c2; have q3:=hB.c3
    unfold nod
    go_simp
   simp only [Act.put,qa,qb,qc]
   refine rdW 2 none (.store 93 (.tmp 2) (.tmp 50)) ?_
   rintro o K hd ho hg hK
   refine zaf9 ho rfl rfl SD.r2 ?_
   rw [hd]
   have tA:=zp9 y3.drew (w.heap.size + 1) (.bool lf) (.slice k1a k1l k1c) (.slice k2a k2l k2c) (.slice k3a k3l k3c)
   have NA:=SD.r2.all lf (.slice k1a k1l k1c) (.slice k2a k2l k2c) (.slice k3a k3l k3c)
   have pA:=SD.pk.tch tA (by have:=SD.pl; omega)
   have qA:=SD.qk.tch tA (by have:=SD.ql; omega)
   have rA:=SD.r3.tch tA (by omega)
   refine hK _ _ (fun _ => ⟨pA,qA⟩) ?_
   clear ho hd hg hK
   simp only [Act.put,qa,qb,qc]
   refine rdW 3 none (.store 93 (.tmp 3) (.tmp 51)) ?_
   rintro o K hd ho hg hK
   refine zaf9 ho rfl rfl rA ?_
   rw [hd]
   refine hK _ _ (fun e => absurd rfl e) ?_
   refine doneW (by kernel_rfl) ?_ _
   clear ho hd hg hK
   simp only [Act.put]
   generalize hWA : (((y3.drew.setCell ⟨w.heap.size + 1,0,none⟩ (.bool lf)).setCell ⟨w.heap.size + 1,1,none⟩ (.slice k1a k1l k1c)).setCell ⟨w.heap.size + 1,2,none⟩ (.slice k2a k2l k2c)).setCell ⟨w.heap.size + 1,3,none⟩ (.slice k3a k3l k3c) = WA at *
   have tB:=zp9 WA (w.heap.size + 2) (.bool lf) (.slice o1a o1l o1c) (.slice o2a o2l o2c) (.slice o3a o3l o3c)
   have NB:=rA.all lf (.slice o1a o1l o1c) (.slice o2a o2l o2c) (.slice o3a o3l o3c)
   have NC:=NA.tch tB (by omega)
   generalize hWB : (((WA.setCell ⟨w.heap.size + 2,0,none⟩ (.bool lf)).setCell ⟨w.heap.size + 2,1,none⟩ (.slice o1a o1l o1c)).setCell ⟨w.heap.size + 2,2,none⟩ (.slice o2a o2l o2c)).setCell ⟨w.heap.size + 2,3,none⟩ (.slice o3a o3l o3c) = WB at *
   have bD : Below y3.heap.size y3 y3.drew:=(Below.refl _ _).drew
   have kp : ∀ v xs,(RdV y3 v xs /\ ∀ j,v.ownBlock = some j -> w.heap.size + 5 <= j) -> RdV WB v xs:=fun v xs h => ((h.1.below bD).tch tA (fun j hj e => by have:=h.2 j hj; omega)).tch tB (fun j hj e => by have:=h.2 j hj; omega)
   have KK : Hid (Nn WB (takeN n m) (.slice k1a k1l k1c) (.slice k2a k2l k2c) (.slice k3a k3l k3c)):=⟨by have:=kp _ _ RK1.out.1; simpa [takeN,strs,List.map_take] using this,by have:=kp _ _ RK2.out.1; simpa [takeN,strs,List.map_take] using this,by have:=kp _ _ RK3.out.1; simpa [takeN,nums,List.map_take] using this⟩
   have OO : Hid (Nn WB (dropN n m) (.slice o1a o1l o1c) (.slice o2a o2l o2c) (.slice o3a o3l o3c)):=⟨by have:=kp _ _ RO1.out.1; simpa [dropN,strs,List.map_drop] using this,by have:=kp _ _ RO2.out.1; simpa [dropN,strs,List.map_drop] using this,by have:=kp _ _ RO3.out.1; simpa [dropN,nums,List.map_drop] using this⟩
   have BB : Hid (Below w.heap.size w WB):=by
    have h1 : Below w.heap.size w y3.drew:=BW3.out.trans (SD.bl.mono BW3.out.size)
    have h2 : Below w.heap.size w WA:=h1.trans (tA.below h1.size (fun j e => by omega))
    exact h2.trans (tB.below h2.size (fun j e => by omega))
   have FK : Hid (Fr3 w.heap.size (.slice k1a k1l k1c) (.slice k2a k2l k2c) (.slice k3a k3l k3c)):=fun j hj => by
    rcases hj with e | e | e
    ·have:=RK1.out.1.2 j e; omega
    ·have:=RK2.out.1.2 j e; omega
    ·have:=RK3.out.1.2 j e; omega
   have FO : Hid (Fr3 w.heap.size (.slice o1a o1l o1c) (.slice o2a o2l o2c) (.slice o3a o3l o3c)):=fun j hj => by
    rcases hj with e | e | e
    ·have:=RO1.out.1.2 j e; omega
    ·have:=RO2.out.1.2 j e; omega
    ·have:=RO3.out.1.2 j e; omega
   have UK : Hid (Ub3 WB (.slice k1a k1l k1c) (.slice k2a k2l k2c) (.slice k3a k3l k3c)):=fun j hj => by
    refine zn1 ?_ (zn2 bD.size (zn2 tA.size tB.size))
    rcases hj with e | e | e
    ·exact RK1.out.2 j e
    ·exact RK2.out.2 j e
    ·exact RK3.out.2 j e
   have UO : Hid (Ub3 WB (.slice o1a o1l o1c) (.slice o2a o2l o2c) (.slice o3a o3l o3c)):=fun j hj => by
    refine zn1 ?_ (zn2 bD.size (zn2 tA.size tB.size))
    rcases hj with e | e | e
    ·exact RO1.out.2 j e
    ·exact RO2.out.2 j e
    ·exact RO3.out.2 j e
   have LA:=hideN NC.load
   have LB:=hideN NB.load
   clear tA tB NA NB NC pA qA rA hWA hWB bD kp SD hS
   go_wp2_with fail
   refine bodyPost_ret (v:=.tuple #[nod lf (.slice k1a k1l k1c) (.slice k2a k2l k2c) (.slice k3a k3l k3c),nod lf (.slice o1a o1l o1c) (.slice o2a o2l o2c) (.slice o3a o3l o3c)]) (zbx9 (p:=2) (q:=3) (ty:=93) (tz:=93) rfl _ _ _ (w.heap.size + 1) (w.heap.size + 2) _ _ rfl rfl LA.out LB.out) rfl ?_
   exact ⟨⟨_,_,_,_,_,_,takeN n m,dropN n m,rfl,KK.out,OO.out,.inr ⟨by rw [hL1.out]; exact h2.out,m,HMR.out,rfl,rfl⟩,FK.out,FO.out,UK.out,UO.out⟩,BB.out⟩
theorem zhd9 {α : Type} (l : List α) (d : α) (k i : Nat) : (l.take k).getD i d = if i < k then l.getD i d else d:=by
 rw [zn3,List.getElem?_take]
 split
 ·rw [zn3]
 ·rfl
theorem zrc9 (n : Nd) {k i : Nat} (h : i < k) : szA (takeN n k) i = szA n i:=by
 have h1 : kA (takeN n k) i = kA n i:=by show (n.ks.take k).getD i eS = _; rw [zhd9,if_pos h]; rfl
 have h2 : vA (takeN n k) i = vA n i:=by show (n.vs.take k).getD i eS = _; rw [zhd9,if_pos h]; rfl
 have h3 : (i < (takeN n k).kd.length) = (i < n.kd.length):=by
  have : (takeN n k).kd.length = min k n.kd.length:=by simp [takeN]
  rw [this]
  exact propext ⟨fun h => by omega,fun h => by omega⟩
 unfold szA
 rw [h1,h2]
 simp only [h3]
 rfl
theorem zlj9 (n : Nd) (k : Nat) : ∀ j,j <= k -> szN (takeN n k) j = szN n j
 | 0,_ => rfl
 | j + 1,h => by
  show szN (takeN n k) j + szA (takeN n k) j = szN n j + szA n j
  rw [zlj9 n k j (by omega),zrc9 n (by omega)]
theorem zki9 (n : Nd) {k : Nat} (h : k <= n.ks.length) : (takeN n k).ks.length = k:=by simp only [takeN,List.length_take]; omega
theorem zrb9 (n : Nd) (k i : Nat) : szA (dropN n k) i = szA n (k + i):=by
 have h1 : kA (dropN n k) i = kA n (k + i):=by
  show (n.ks.drop k).getD i eS = n.ks.getD (k + i) eS
  rw [zn3,List.getElem?_drop,<- zn3]
 have h2 : vA (dropN n k) i = vA n (k + i):=by
  show (n.vs.drop k).getD i eS = n.vs.getD (k + i) eS
  rw [zn3,List.getElem?_drop,<- zn3]
 have h3 : (i < (dropN n k).kd.length) = (k + i < n.kd.length):=by
  have : (dropN n k).kd.length = n.kd.length - k:=by simp [dropN]
  rw [this]
  exact propext ⟨fun h => by omega,fun h => by omega⟩
 unfold szA
 rw [h1,h2]
 simp only [h3]
 rfl
theorem zgj9 (n : Nd) (k : Nat) : ∀ j,szN (dropN n k) j + szN n k = szN n (k + j) + 1
 | 0 => by show 1 + szN n k = szN n k + 1; omega
 | j + 1 => by
  have:=zgj9 n k j
  show szN (dropN n k) j + szA (dropN n k) j + szN n k = szN n (k + j) + szA n (k + j) + 1
  rw [zrb9]
  omega
theorem zjy9 {n : Nd} {m : Nat} (h : MidR n m) (h50 : ∀ i,i < n.ks.length -> szA n i <= 50) (hbig : 240 < szN n n.ks.length) (hmax : szN n n.ks.length <= 292) :
  szN (takeN n m) m <= 240 /\ szN (dropN n m) (n.ks.length - m) <= 240:=by
 have hl:=h.lt
 have h1:=h.one
 have hm : ∀ k,k <= n.ks.length -> szN n k <= szN n n.ks.length:=by
  intro k hk
  obtain ⟨d,hd⟩ : ∃ d,k + d = n.ks.length:=⟨_,Nat.add_sub_of_le hk⟩
  rw [<- hd]
  clear hd hk
  induction d with
  | zero => exact zn6 _
  | succ d ih => show _ <= szN n (k + d) + szA n (k + d); omega
 have hW : ∀ k,k <= n.ks.length -> W (szN n k) = (szN n k : Int):=fun k hk => zas9 (by have:=hm k hk; omega)
 have hh : hlfN n = ((szN n n.ks.length / 2 : Nat) : Int):=by
  unfold hlfN
  rw [hW _ (zn6 _)]
  rcases tdiv2 (szN n n.ks.length : Int) with ⟨_,e⟩ | ⟨c,_⟩
  ·rw [e]; omega
  ·omega
 have hd:=zgj9 n m (n.ks.length - m)
 rw [Nat.add_sub_of_le (by omega)] at hd
 rw [zlj9 n m m (zn6 _)]
 have hst : szN n m = szN n (m - 1) + szA n (m - 1):=by
  obtain ⟨q,rfl⟩ : ∃ q,m = q + 1:=⟨m - 1,by omega⟩
  rfl
 have ha:=h50 (m - 1) (by omega)
 have hmm:=hm m (by omega)
 constructor
 ·by_cases c : m = 1
  ·subst c
   have : szN n (1 - 1) = 1:=rfl
   omega
  ·have:=h.no (m - 1) (by omega) (by omega)
   rw [hW _ (by omega),hh] at this
   omega
 ·rcases h.yes with e | e
  ·have e1 : n.ks.length = m + 1:=by omega
   have hst2 : szN n n.ks.length = szN n m + szA n m:=by rw [e1]; rfl
   have:=h50 m (by omega)
   omega
  ·rw [hh,hW _ (by omega)] at e
   omega
end Go.Proofs.YtjhccpijpffahaaGreat
