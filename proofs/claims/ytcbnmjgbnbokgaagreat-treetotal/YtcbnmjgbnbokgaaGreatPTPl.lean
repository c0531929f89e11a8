import Derived.Test.YtcbnmjgbnbokgaaGreatPNSplit
import Derived.Test.YtcbnmjgbnbokgaaGreatPNRead
import Derived.Test.YtcbnmjgbnbokgaaGreatPPlain
import Derived.Test.YtcbnmjgbnbokgaaGreatPNPl
import Derived.Great.BuildSlice
set_option maxRecDepth 100000
set_option linter.unusedVariables false
set_option linter.unusedSimpArgs false
set_option maxHeartbeats 8000000
namespace Go.Proofs.YtcbnmjgbnbokgaaGreat
open Go.RowKit Pl
structure AS where
 V : Int -> Int × Nd
 Q : Int -> Int × Nd
 A : Ah.St
 F : Int -> Bool
structure CH where
 lv : Nat
 tk : List Int
 gn : List Int
noncomputable def vwB (e : Int) (b : Int × List Int) : Int × Nd:=if e = 0 then (match getN b.1 b.2 with | some n => (0,n) | none => (7,noneN)) else (e,noneN)
def look (a : AS) (x : Int) (lv : Nat) : Int × Nd:=if 16 < lv then (7,noneN) else a.V x
def updI {α : Type} (f : Int -> α) (x : Int) (y : α) (m : Int) : α:=if m = x then y else f m
theorem zeq9 {α : Type} (f : Int -> α) (x : Int) (y : α) : updI f x y x = y:=if_pos rfl
theorem zhr9 {α : Type} (f : Int -> α) {x m : Int} (y : α) (h : m ≠ x) : updI f x y m = f m:=if_neg h
def AS.wr (a : AS) (n : Nd) : AS:={ V:=updI a.V (Ah.take a.A).1 (0,n),Q:=a.Q,A:=(Ah.take a.A).2.2,F:=updI a.F (Ah.take a.A).1 true }
def AS.go (a : AS) (x : Int) : AS:={ V:=updI a.V x (a.Q x),Q:=a.Q,A:=(Ah.back x a.A).2,F:=updI a.F x false }
def AS.gos (a : AS) (l : List Int) : AS:=l.foldl AS.go a
theorem zri9 (a : AS) : a.gos [] = a:=rfl
theorem zjv9 (a : AS) (x : Int) (l : List Int) : a.gos (x :: l) = (a.go x).gos l:=rfl
structure WR where
 x : Int
 e : Int
 a : AS
 c : CH
noncomputable def writeF (a : AS) (c : CH) (n : Nd) : WR:=
 if mayN n = true then (if (Ah.take a.A).2.1 = true then ⟨(Ah.take a.A).1,0,a.wr n,{ c with tk:=c.tk ++ [(Ah.take a.A).1] }⟩ else ⟨0,10,a,c⟩) else ⟨0,7,a,c⟩
def leaveF (a : AS) (c : CH) (x : Int) : CH:=if a.F x = true then { c with gn:=c.gn ++ [x] } else c
open Classical in
noncomputable def midF (n : Nd) : Nat:=if h : ∃ m,MidR n m then h.choose else 0
theorem zry9 {n : Nd} {m : Nat} (h : MidR n m) : midF n = m:=by
 have : ∃ m,MidR n m:=⟨m,h⟩
 unfold midF
 rw [dif_pos this]
 exact this.choose_spec.same h
noncomputable def piecesF (n : Nd) : List Nd:=
 if n.ks.length = 0 then [] else if W (szN n n.ks.length) <= 240 then [n] else if n.ks.length < 2 then [joinN n noneN,noneN] else [takeN n (midF n),dropN n (midF n)]
structure KR where
 e : Int
 xs : List Int
 a : AS
 c : CH
noncomputable def kidsF (a : AS) (c : CH) : List Nd -> KR
 | [] => ⟨0,[],a,c⟩
 | p :: r => if (writeF a c p).e ≠ 0 then ⟨(writeF a c p).e,[],(writeF a c p).a,(writeF a c p).c⟩ else
   ⟨(kidsF (writeF a c p).a (writeF a c p).c r).e,(writeF a c p).x :: (kidsF (writeF a c p).a (writeF a c p).c r).xs,(kidsF (writeF a c p).a (writeF a c p).c r).a,(kidsF (writeF a c p).a (writeF a c p).c r).c⟩
def keysF (k : ByteArray) : List Nd -> List ByteArray
 | [] => []
 | p :: r => k :: r.map (fun q => kA q 0)
def zcw9 (n : Nd) (i j : Nat) (ks : List ByteArray) (xs : List Int) : Nd:={ n with ks:=n.ks.take i ++ (ks ++ n.ks.drop j),kd:=n.kd.take i ++ (xs ++ n.kd.drop j) }
structure NR where
 e : Int
 n : Nd
 a : AS
 c : CH
noncomputable def replaceF (a : AS) (c : CH) (n : Nd) (i j : Nat) (ps : List Nd) : NR:=
 if (kidsF a c ps).e ≠ 0 then ⟨(kidsF a c ps).e,noneN,(kidsF a c ps).a,(kidsF a c ps).c⟩ else ⟨0,zcw9 n i j (keysF (kA n i) ps) (kidsF a c ps).xs,(kidsF a c ps).a,(kidsF a c ps).c⟩
structure JR where
 e : Int
 n : Nd
 i : Nat
 j : Nat
 c : CH
noncomputable def besF (a : AS) (c : CH) (n : Nd) (at_ lv : Nat) (p : Nd) (b : Int) : Option JR:=
 if b < 0 ∨ (n.kd.length : Int) <= b then none else
 if (look a (dA n b.toNat) (lv + 1)).1 ≠ 0 then some ⟨(look a (dA n b.toNat) (lv + 1)).1,noneN,0,0,c⟩ else
 if b < (at_ : Int) then
  (if mayN (joinN (look a (dA n b.toNat) (lv + 1)).2 p) = true then some ⟨0,joinN (look a (dA n b.toNat) (lv + 1)).2 p,b.toNat,b.toNat + 2,leaveF a c (dA n b.toNat)⟩ else none)
 else (if mayN (joinN p (look a (dA n b.toNat) (lv + 1)).2) = true then some ⟨0,joinN p (look a (dA n b.toNat) (lv + 1)).2,at_,at_ + 2,leaveF a c (dA n b.toNat)⟩ else none)
noncomputable def joinedF (a : AS) (c : CH) (n : Nd) (at_ lv : Nat) (p : Nd) : JR:=
 match besF a c n at_ lv p ((at_ : Int) - 1) with
 | some r => r
 | none => match besF a c n at_ lv p ((at_ : Int) + 1) with
  | some r => r
  | none => ⟨0,p,at_,at_ + 1,c⟩
def minS (x y : ByteArray) : ByteArray:=if lts y x = true then y else x
structure CD where
 key : ByteArray
 lf : Nd -> Nd
 jn : Bool
structure BR where
 e : Int
 ps : List Nd
 a : AS
 c : CH
noncomputable def upF (d : CD) (n : Nd) (lv : Nat) (r : BR) : BR:=
 if r.e ≠ 0 then ⟨r.e,[],r.a,r.c⟩ else
 let at_:=plc n d.key n.ks.length
 let n1 : Nd:={ n with ks:=n.ks.set at_ (minS (kA n at_) d.key) }
 let q : JR × List Nd:=if d.jn = true /\ r.ps.length = 1 /\ W (szN (r.ps.getD 0 noneN) (r.ps.getD 0 noneN).ks.length) < 120 then (joinedF r.a r.c n1 at_ lv (r.ps.getD 0 noneN),[(joinedF r.a r.c n1 at_ lv (r.ps.getD 0 noneN)).n]) else (⟨0,noneN,at_,at_ + 1,r.c⟩,r.ps)
 if q.1.e ≠ 0 then ⟨q.1.e,[],r.a,q.1.c⟩ else
 if (replaceF r.a q.1.c n1 q.1.i q.1.j q.2).e ≠ 0 then ⟨(replaceF r.a q.1.c n1 q.1.i q.1.j q.2).e,[],(replaceF r.a q.1.c n1 q.1.i q.1.j q.2).a,(replaceF r.a q.1.c n1 q.1.i q.1.j q.2).c⟩ else
 ⟨0,piecesF (replaceF r.a q.1.c n1 q.1.i q.1.j q.2).n,(replaceF r.a q.1.c n1 q.1.i q.1.j q.2).a,(replaceF r.a q.1.c n1 q.1.i q.1.j q.2).c⟩
noncomputable def belowF (d : CD) : Nat -> AS -> CH -> Int -> Nat -> BR
 | 0,a,c,x,lv => ⟨7,[],a,c⟩
 | f + 1,a,c,x,lv =>
  if (look a x lv).1 ≠ 0 then ⟨(look a x lv).1,[],a,c⟩ else
  if (look a x lv).2.lf = true then ⟨0,piecesF (d.lf (look a x lv).2),a,{ leaveF a c x with lv:=lv }⟩ else
  upF d (look a x lv).2 lv (belowF d f a (leaveF a c x) (dA (look a x lv).2 (plc (look a x lv).2 d.key (look a x lv).2.ks.length)) (lv + 1))
def leaf0 : Nd:={ lf:=true,ks:=[],vs:=[],kd:=[] }
noncomputable def partsF (d : CD) (a : AS) (c : CH) (x : Int) : BR:=if x = 0 then ⟨0,piecesF (d.lf leaf0),a,c⟩ else belowF d 16 a c x 1
def top0 : Nd:={ lf:=false,ks:=[eS],vs:=[],kd:=[0] }
noncomputable def raiseF (a : AS) (c : CH) (ps : List Nd) : WR:=
 if c.lv = 16 then ⟨0,7,a,c⟩ else
 if (replaceF a c top0 0 1 ps).e ≠ 0 then ⟨0,(replaceF a c top0 0 1 ps).e,(replaceF a c top0 0 1 ps).a,(replaceF a c top0 0 1 ps).c⟩ else
 writeF (replaceF a c top0 0 1 ps).a (replaceF a c top0 0 1 ps).c (replaceF a c top0 0 1 ps).n
noncomputable def rootedF (d : CD) (a : AS) (c : CH) (x : Int) : WR:=
 let r:=partsF d a c x
 if r.e ≠ 0 then ⟨0,r.e,r.a,r.c⟩ else
 if r.ps.length = 0 then ⟨0,0,r.a,r.c⟩ else
 if r.ps.length = 1 then (if (r.ps.getD 0 noneN).kd.length = 1 then ⟨dA (r.ps.getD 0 noneN) 0,0,r.a,r.c⟩ else writeF r.a r.c (r.ps.getD 0 noneN)) else raiseF r.a r.c r.ps
def ch0 : CH:=⟨0,[],[]⟩
structure MR where
 x : Int
 e : Int
 a : AS
noncomputable def madeF (d : CD) (a : AS) (x : Int) : MR:=
 let r:=rootedF d a ch0 x
 if r.e ≠ 0 then ⟨0,r.e,r.a.gos r.c.tk⟩ else ⟨r.x,0,r.a.gos r.c.gn⟩
def insL (key val : ByteArray) (n : Nd) : Nd:=
 let at_:=plc n key n.ks.length
 if at_ < n.ks.length /\ eqs (kA n at_) key = true then { n with vs:=n.vs.set at_ val } else { n with ks:=n.ks.take at_ ++ (key :: n.ks.drop at_),vs:=(n.vs.take at_ ++ (eS :: n.vs.drop at_)).set at_ val }
def delL (key : ByteArray) (n : Nd) : Nd:=
 let at_:=plc n key n.ks.length
 if at_ < n.ks.length /\ eqs (kA n at_) key = true then { n with ks:=n.ks.take at_ ++ n.ks.drop (at_ + 1),vs:=n.vs.take at_ ++ n.vs.drop (at_ + 1) } else n
noncomputable def putF (a : AS) (x : Int) (key val : ByteArray) : MR:=
 if eqs key eS = true ∨ 24 < key.size ∨ 24 < val.size then ⟨0,1,a⟩ else madeF ⟨key,insL key val,false⟩ a x
structure WD (σ : Type) where
 st : σ -> Int -> Nd -> σ × List Int
 en : σ -> Bool
structure DR (σ : Type) where
 e : Int
 s : σ
 z : List Int
def goF {σ : Type} (en : σ -> Bool) (rec : σ -> List Int -> Int -> DR σ) : List Int -> σ -> List Int -> DR σ
 | [],s,z => ⟨0,s,z⟩
 | k :: r,s,z => if en s = true then ⟨0,s,z⟩ else if (rec s z k).e ≠ 0 then rec s z k else goF en rec r (rec s z k).s (rec s z k).z
def downF {σ : Type} (D : WD σ) (a : AS) : Nat -> Nat -> σ -> List Int -> Int -> DR σ
 | 0,lv,s,z,x => if x ∈ z then ⟨7,s,z⟩ else ⟨7,s,x :: z⟩
 | f + 1,lv,s,z,x => if x ∈ z then ⟨7,s,z⟩ else if (look a x lv).1 ≠ 0 then ⟨(look a x lv).1,s,x :: z⟩ else
   goF D.en (downF D a f (lv + 1)) (D.st s x (look a x lv).2).2 (D.st s x (look a x lv).2).1 (x :: z)
def fromF {σ : Type} (D : WD σ) (a : AS) (s : σ) (x : Int) : DR σ:=if x = 0 then ⟨0,s,[]⟩ else downF D a 16 1 s [] x
def getW (key : ByteArray) : WD (ByteArray × Bool) where
 st:=fun s x n => if n.lf = true then (if plc n key n.ks.length < n.ks.length /\ eqs (kA n (plc n key n.ks.length)) key = true then (vA n (plc n key n.ks.length),true) else s,[]) else (s,[dA n (plc n key n.ks.length)])
 en:=fun _ => false
def getF (a : AS) (x : Int) (key : ByteArray) : DR (ByteArray × Bool):=fromF (getW key) a (eS,false) x
def bsF (n : Nd) (to : ByteArray) : Nat:=plc { n with lf:=true } to n.ks.length
def endF (n : Nd) (to : ByteArray) : Nat:=if eqs to eS = true then n.ks.length else bsF n to
def fstF (n : Nd) (from_ to : ByteArray) : Nat:=min (plc n from_ n.ks.length) (endF n to)
def entF (n : Nd) (i j : Nat) : List (ByteArray × ByteArray):=(List.range' i (j - i)).map fun k => (kA n k,vA n k)
def scanW (from_ to : ByteArray) (most : Nat) : WD (List (ByteArray × ByteArray) × Bool) where
 st:=fun s x n => let r:=if n.lf = true then s.1 ++ (entF n (fstF n from_ to) (endF n to)).take (most - s.1.length) else s.1
  ((r,decide (r.length = most)),if n.lf = true then [] else (n.kd.take (endF n to)).drop (fstF n from_ to))
 en:=fun s => s.2
def zdh9 : WD (List Int) where
 st:=fun s x n => (s ++ [x],n.kd)
 en:=fun _ => false
def zdm9 : WD Nat where
 st:=fun s x n => (s + 1,n.kd.take 1)
 en:=fun _ => false
structure ER where
 x : Int
 ok : Bool
 e : Int
 a : AS
noncomputable def delF (a : AS) (x : Int) (key : ByteArray) : ER:=
 if (getF a x key).e ≠ 0 then ⟨0,false,(getF a x key).e,a⟩ else if (getF a x key).s.2 = true then
  ⟨(madeF ⟨key,delL key,true⟩ a x).x,decide ((madeF ⟨key,delL key,true⟩ a x).e = 0),(madeF ⟨key,delL key,true⟩ a x).e,(madeF ⟨key,delL key,true⟩ a x).a⟩ else ⟨x,false,0,a⟩
theorem belowN {n : Nat} {w : World} (h : n <= w.heap.size) (q : Nat) : Below n w (w.drewN q):=(⟨rfl,rfl,rfl,zn6 _,fun _ _ _ => rfl⟩ : Tch (fun _ => False) w (w.drewN q)).below h (fun _ e => e.elim)
theorem zbv9 (n : Nd) (u1 u2 u3 : Value) (key : ByteArray) (w : World) (h : Nn w n u1 u2 u3) (hs : Sm n) :
  Calls Tryz.prog 43 #[nod n.lf u1 u2 u3,.string key] w fun e w' => e = .returned (.tuple #[.int .i64 (plc n key n.ks.length : Int),.bool (decide (plc n key n.ks.length < n.ks.length /\ eqs (kA n (plc n key n.ks.length)) key = true))]) /\ Below w.heap.size w w':=by
 obtain ⟨a1,c1,a2,c2,a3,c3,rfl,rfl,rfl,⟨l1,l2,l3,l4,l5,l6⟩,_,_,_⟩:=h.out
 have HP0:=fun W hb => zci9 n _ _ _ key W (h.below hb) hs
 have hple:=plc_le n key n.ks.length
 have hkl:=hs.kl
 obtain ⟨L1,hL1⟩:=exH n.ks.length
 obtain ⟨L2,hL2⟩:=exH n.vs.length
 obtain ⟨L3,hL3⟩:=exH n.kd.length
 have H:=hideN h
 rw [hL1.out] at H l1 hple hkl ⊢
 rw [hL2.out] at H l3 ⊢
 rw [hL3.out] at H l5 ⊢
 obtain ⟨lf,hlf⟩:=exH n.lf
 obtain ⟨p,hp⟩:=exH (plc n key L1)
 rw [hp.out] at hple ⊢
 obtain ⟨fl,hfl⟩:=exH (decide (p < L1 /\ eqs (kA n p) key = true))
 rw [hfl.out]
 rw [hlf.out]
 have HP : Hid (∀ W,Below w.heap.size w W -> Calls Tryz.prog 42 #[.agg #[.bool lf,.slice a1 L1 c1,.slice a2 L2 c2,.slice a3 L3 c3],.string key] W fun e w' => e = .returned (.int .i64 (p : Int)) /\ Below W.heap.size W w'):=fun W hb => by
  have:=HP0 W hb
  rw [hL1.out,hL2.out,hL3.out,hlf.out,hp.out] at this
  exact this
 unfold nod
 obtain ⟨W1,hW1⟩:=exN (w.alloc (.cells #[.bool lf,.slice a1 L1 c1,.slice a2 L2 c2,.slice a3 L3 c3] 92))
 have B1 : Hid (Below w.heap.size w W1):=by rw [<- hW1]; exact za9 _ _
 have V1 : Hid (Nb W1 92 w.heap.size lf (.slice a1 L1 c1) (.slice a2 L2 c2) (.slice a3 L3 c3)):=by rw [<- hW1]; exact nb_new _ _ _ _ _ _
 have p0:=V1.out.c0
 have p1:=V1.out.c1
 have p2:=V1.out.c2
 have p3:=V1.out.c3
 clear h hs HP0 hL2 hL3 l2 l3 l4 l5 l6
 go_enter Tryz.func43,Tryz.ntmps43
 go_wp2_with fail
 refine (HP.out W1 B1.out).mono ?_
 rintro e w2 ⟨rfl,b2⟩
 have V2:=V1.out.below b2
 have q1:=V2.c1
 have BB : Hid (Below w.heap.size w w2):=B1.out.trans (b2.mono B1.out.size)
 have H2 : Nn w2 n (.slice a1 L1 c1) (.slice a2 L2 c2) (.slice a3 L3 c3):=H.out.below BB.out
 clear b2 p0 p1 p2 p3 hW1 HP V2
 by_cases hlt : p < L1
 ·obtain ⟨b,o,rfl,ck⟩:=H2.key (i:=p) (by rw [hL1.out]; exact hlt)
  obtain ⟨ky,hky⟩:=exH (kA n p)
  rw [hky.out] at ck
  have i0 : (0 : Int) <= (p : Int):=by omega
  have i1 : (p : Int) < (L1 : Int):=by omega
  clear H2
  cases hc : (ky.toList == key.toList) with
  | true =>
   obtain rfl : fl = true:=by rw [<- hfl.out,decide_eq_true_iff,hky.out]; exact ⟨hlt,hc⟩
   go_wp2_with fail
   go_quiet (fail)
   go_wp2_with fail
   go_ret2
   exact ⟨rfl,BB.out.trans (belowN BB.out.size _)⟩
  | false =>
   obtain rfl : fl = false:=by rw [<- hfl.out,zn4,hky.out]; rintro ⟨_,e⟩; unfold eqs at e; rw [hc] at e; cases e
   go_wp2_with fail
   go_quiet (fail)
   go_wp2_with fail
   go_ret2
   exact ⟨rfl,BB.out.trans (belowN BB.out.size _)⟩
 ·obtain rfl : fl = false:=by rw [<- hfl.out,zn4]; rintro ⟨e,_⟩; exact hlt e
  have i1 : decide ((p : Int) < (L1 : Int)) = false:=by rw [zn4]; omega
  have i2 : decide (p < L1) = false:=by rw [zn4]; omega
  clear hlt H2
  go_wp2_with fail
  go_quiet (fail)
  go_wp2_with fail
  go_ret2
  exact ⟨rfl,BB.out.trans (belowN BB.out.size _)⟩
def Ps (Z : Nat -> Prop) (w : World) (v : Value) : List Nd -> Prop
 | [] => v = .slice none 0 0
 | [n] => ∃ b u1 u2 u3,v = .slice (some ⟨b,0,none⟩) 1 1 /\ w.heap[b]? = some (.cells #[.bool n.lf,u1,u2,u3] 92 (0,0)) /\ Nn w n u1 u2 u3 /\ Z b /\ (∀ j,(u1.ownBlock = some j ∨ u2.ownBlock = some j ∨ u3.ownBlock = some j) -> Z j)
 | [n,m] => ∃ b u1 u2 u3 x1 x2 x3,v = .slice (some ⟨b,0,none⟩) 2 2 /\ w.heap[b]? = some (.cells #[.bool n.lf,u1,u2,u3,.bool m.lf,x1,x2,x3] 92 (0,0)) /\ Nn w n u1 u2 u3 /\ Nn w m x1 x2 x3 /\ Z b /\ (∀ j,(u1.ownBlock = some j ∨ u2.ownBlock = some j ∨ u3.ownBlock = some j) -> Z j) /\ (∀ j,(x1.ownBlock = some j ∨ x2.ownBlock = some j ∨ x3.ownBlock = some j) -> Z j)
 | _ => False
theorem Ps.len {Z : Nat -> Prop} {w : World} {v : Value} {ps : List Nd} (h : Ps Z w v ps) : ps.length <= 2 /\ ∃ a,v = .slice a ps.length ps.length:=by
 match ps,h with
 | [],h => exact ⟨by simp,none,h⟩
 | [n],⟨b,_,_,_,h,_⟩ => exact ⟨by simp,_,h⟩
 | [n,m],⟨b,_,_,_,_,_,_,h,_⟩ => exact ⟨by simp,_,h⟩
theorem Ps.tch {Z S : Nat -> Prop} {w w' : World} {v : Value} {ps : List Nd} (h : Ps Z w v ps) (ht : Tch S w w') (hn : ∀ j,Z j -> ¬ S j) : Ps Z w' v ps:=by
 match ps,h with
 | [],h => exact h
 | [n],⟨b,u1,u2,u3,h1,h2,h3,h4,h5⟩ =>
  exact ⟨b,u1,u2,u3,h1,by rw [ht.block b (Array.getElem?_eq_some_iff.1 h2).1 (hn b h4)]; exact h2,h3.tch ht (fun j e => hn j (h5 j (.inl e))) (fun j e => hn j (h5 j (.inr (.inl e)))) (fun j e => hn j (h5 j (.inr (.inr e)))),h4,h5⟩
 | [n,m],⟨b,u1,u2,u3,x1,x2,x3,h1,h2,h3,h3',h4,h5,h6⟩ =>
  exact ⟨b,u1,u2,u3,x1,x2,x3,h1,by rw [ht.block b (Array.getElem?_eq_some_iff.1 h2).1 (hn b h4)]; exact h2,h3.tch ht (fun j e => hn j (h5 j (.inl e))) (fun j e => hn j (h5 j (.inr (.inl e)))) (fun j e => hn j (h5 j (.inr (.inr e)))),h3'.tch ht (fun j e => hn j (h6 j (.inl e))) (fun j e => hn j (h6 j (.inr (.inl e)))) (fun j e => hn j (h6 j (.inr (.inr e)))),h4,h5,h6⟩
theorem Ps.below {Z : Nat -> Prop} {w w' : World} {v : Value} {ps : List Nd} (h : Ps Z w v ps) (hb : Below w.heap.size w w') : Ps Z w' v ps:=h.tch (S:=fun _ => False) (Tch.of_below hb) (fun _ _ e => e)
theorem zfv9 {n A B : Nd} (h0 : n.ks.length ≠ 0) (h1 : ¬ W (szN n n.ks.length) <= 240) (hR : SplR n A B) : piecesF n = [A,B]:=by
 unfold piecesF
 rw [if_neg h0,if_neg h1]
 rcases hR with ⟨h2,rfl,rfl⟩ | ⟨h2,m,hm,rfl,rfl⟩
 ·rw [if_pos h2]
 ·rw [if_neg (by omega),zry9 hm]
theorem infN4 : ∃ i,Tryz.prog.info? 92 = some i /\ i.zero = some (nod false (.slice none 0 0) (.slice none 0 0) (.slice none 0 0)) /\ i.size = 4 /\ i.bytes = 80:=info_parts (z:=nod false (.slice none 0 0) (.slice none 0 0) (.slice none 0 0)) (size:=4) (bytes:=80) (by kernel_rfl)
theorem zqm9 (w : World) (lf : Bool) (b1 b2 b3 : Option Addr) (l1 l2 l3 c1 c2 c3 : Nat) : (Instr.buildSlice 177 1 #[(0,.agg #[.bool lf,.slice b1 l1 c1,.slice b2 l2 c2,.slice b3 l3 c3])]).run Tryz.prog w = .ok (.slice (some ⟨w.heap.size,0,none⟩) 1 1) (w.alloc (.cells #[.bool lf,.slice b1 l1 c1,.slice b2 l2 c2,.slice b3 l3 c3] 92)):=by
 obtain ⟨i,hi,hz,h1,hb⟩:=infN4
 refine run_buildSlice w _ 92 1 _ _ i _ Tryz.underlying177 hi hz (by rw [h1]; decide) (by rw [h1]; decide) ?_
 rw [h1]
 have:=Go.Great.fill_whole (s:=4) (by decide) [.agg #[.bool lf,.slice b1 l1 c1,.slice b2 l2 c2,.slice b3 l3 c3]] ((Array.range (1 * 4)).map ((Value.agg #[.bool false,.slice none 0 0,.slice none 0 0,.slice none 0 0]).cells[· % (Value.agg #[.bool false,.slice none 0 0,.slice none 0 0,.slice none 0 0]).cells.size]!)) (fun v hv => by
   simp at hv
   subst hv
   rfl) (by simp)
 refine this.trans ?_
 simp [Value.cells]
theorem zqn9 (w : World) (lf lg : Bool) (b1 b2 b3 d1 d2 d3 : Option Addr) (l1 l2 l3 c1 c2 c3 m1 m2 m3 e1 e2 e3 : Nat) : (Instr.buildSlice 177 2 #[(0,.agg #[.bool lf,.slice b1 l1 c1,.slice b2 l2 c2,.slice b3 l3 c3]),(1,.agg #[.bool lg,.slice d1 m1 e1,.slice d2 m2 e2,.slice d3 m3 e3])]).run Tryz.prog w = .ok (.slice (some ⟨w.heap.size,0,none⟩) 2 2) (w.alloc (.cells #[.bool lf,.slice b1 l1 c1,.slice b2 l2 c2,.slice b3 l3 c3,.bool lg,.slice d1 m1 e1,.slice d2 m2 e2,.slice d3 m3 e3] 92)):=by
 obtain ⟨i,hi,hz,h1,hb⟩:=infN4
 refine run_buildSlice w _ 92 2 _ _ i _ Tryz.underlying177 hi hz (by rw [h1]; decide) (by rw [h1]; decide) ?_
 rw [h1]
 have:=Go.Great.fill_whole (s:=4) (by decide) [.agg #[.bool lf,.slice b1 l1 c1,.slice b2 l2 c2,.slice b3 l3 c3],.agg #[.bool lg,.slice d1 m1 e1,.slice d2 m2 e2,.slice d3 m3 e3]] ((Array.range (2 * 4)).map ((Value.agg #[.bool false,.slice none 0 0,.slice none 0 0,.slice none 0 0]).cells[· % (Value.agg #[.bool false,.slice none 0 0,.slice none 0 0,.slice none 0 0]).cells.size]!)) (fun v hv => by
   simp at hv
   rcases hv with rfl | rfl <;> rfl) (by simp)
 refine this.trans ?_
 simp [Value.cells]
theorem zap9 (n : Nd) (u1 u2 u3 : Value) (Z : Nat -> Prop) (w : World) (h : Nn w n u1 u2 u3) (hs : Sm n) (hz : ∀ j,(u1.ownBlock = some j ∨ u2.ownBlock = some j ∨ u3.ownBlock = some j) -> Z j) (hu : Ub3 w u1 u2 u3) :
  Calls Tryz.prog 142 #[nod n.lf u1 u2 u3] w fun e w' => ∃ v,e = .returned v /\ Ps (fun j => (Z j ∨ w.heap.size <= j) /\ j < w'.heap.size) w' v (piecesF n) /\ Below w.heap.size w w':=by
 obtain ⟨a1,c1,a2,c2,a3,c3,rfl,rfl,rfl,⟨l1,l2,l3,l4,l5,l6⟩,_,_,_⟩:=h.out
 have HSZ0:=fun W hb => zbq9 n _ _ _ W (h.below hb) hs
 have HSP0:=fun W hb => zle9 n _ _ _ W (h.below hb) hs
 obtain ⟨L1,hL1⟩:=exH n.ks.length
 obtain ⟨L2,hL2⟩:=exH n.vs.length
 obtain ⟨L3,hL3⟩:=exH n.kd.length
 have H:=hideN h
 have HZ:=hideN hz
 have HU:=hideN hu
 rw [hL1.out] at H HZ HU l1 ⊢
 rw [hL2.out] at H HZ HU l3 ⊢
 rw [hL3.out] at H HZ HU l5 ⊢
 obtain ⟨lf,hlf⟩:=exH n.lf
 obtain ⟨z,hzz⟩:=exH (W (szN n L1))
 rw [hlf.out]
 have HSZ : Hid (∀ W,Below w.heap.size w W -> Calls Tryz.prog 157 #[.agg #[.bool lf,.slice a1 L1 c1,.slice a2 L2 c2,.slice a3 L3 c3]] W fun e w' => e = .returned (.int .i64 z) /\ Below W.heap.size W w'):=fun W hb => by
  have:=HSZ0 W hb
  rw [hL1.out,hL2.out,hL3.out,hlf.out,hzz.out] at this
  exact this
 have HSP : Hid (∀ W,Below w.heap.size w W -> Calls Tryz.prog 158 #[.agg #[.bool lf,.slice a1 L1 c1,.slice a2 L2 c2,.slice a3 L3 c3]] W fun e w' => (∃ k1 k2 k3 o1 o2 o3 A B,e = .returned (.tuple #[nod A.lf k1 k2 k3,nod B.lf o1 o2 o3]) /\ Nn w' A k1 k2 k3 /\ Nn w' B o1 o2 o3 /\ SplR n A B /\ Fr3 W.heap.size k1 k2 k3 /\ Fr3 W.heap.size o1 o2 o3 /\ Ub3 w' k1 k2 k3 /\ Ub3 w' o1 o2 o3) /\ Below W.heap.size W w'):=fun W hb => by
  have:=HSP0 W hb
  rw [hL1.out,hL2.out,hL3.out,hlf.out] at this
  exact this
 unfold nod
 obtain ⟨W1,hW1⟩:=exN (w.alloc (.cells #[.bool lf,.slice a1 L1 c1,.slice a2 L2 c2,.slice a3 L3 c3] 92))
 have B1 : Hid (Below w.heap.size w W1):=by rw [<- hW1]; exact za9 _ _
 have V1 : Hid (Nb W1 92 w.heap.size lf (.slice a1 L1 c1) (.slice a2 L2 c2) (.slice a3 L3 c3)):=by rw [<- hW1]; exact nb_new _ _ _ _ _ _
 have p0:=V1.out.c0
 have p1:=V1.out.c1
 have p2:=V1.out.c2
 have p3:=V1.out.c3
 clear h hs hz hu HSZ0 HSP0 l2 l3 l4 l5 l6
 by_cases h0 : L1 = 0
 ·have HPF : Hid (piecesF n = []):=by show _ = _; unfold piecesF; rw [if_pos (by rw [hL1.out]; exact h0)]
  rw [HPF.out]
  have e0 : ((L1 : Int) == 0) = true:=by rw [beq_iff_eq]; omega
  clear h0
  go_enter Tryz.func142,Tryz.ntmps142
  go_wp2_with fail
  go_ret
  exact ⟨_,rfl,rfl,B1.out⟩
 ·have e0 : ((L1 : Int) == 0) = false:=by rw [beq_eq_false_iff_ne]; omega
  by_cases h24 : z <= 240
  ·have HPF : Hid (piecesF n = [n]):=by show _ = _; unfold piecesF; rw [if_neg (by rw [hL1.out]; exact h0),if_pos (by rw [hL1.out,hzz.out]; exact h24)]
   rw [HPF.out]
   have hbd:=zqm9
   go_enter Tryz.func142,Tryz.ntmps142
   go_wp2_with fail
   refine (HSZ.out W1 B1.out).mono ?_
   rintro e w2 ⟨rfl,b2⟩
   have V2:=V1.out.below b2
   have BB : Hid (Below w.heap.size w w2):=B1.out.trans (b2.mono B1.out.size)
   have q0:=V2.c0
   have q1:=V2.c1
   have q2:=V2.c2
   have q3:=V2.c3
   have HW3 : Hid (Ps (fun j => (Z j ∨ w.heap.size <= j) /\ j < (w2.alloc (.cells #[.bool lf,.slice a1 L1 c1,.slice a2 L2 c2,.slice a3 L3 c3] 92)).heap.size) (w2.alloc (.cells #[.bool lf,.slice a1 L1 c1,.slice a2 L2 c2,.slice a3 L3 c3] 92)) (.slice (some ⟨w2.heap.size,0,none⟩) 1 1) [n] /\ Below w.heap.size w (w2.alloc (.cells #[.bool lf,.slice a1 L1 c1,.slice a2 L2 c2,.slice a3 L3 c3] 92))):=by
    have b3:=za9 w2 (.cells #[.bool lf,.slice a1 L1 c1,.slice a2 L2 c2,.slice a3 L3 c3] 92)
    refine ⟨⟨_,_,_,_,rfl,by rw [hlf.out]; exact heap_alloc_new w2 _,(H.out.below BB.out).below b3,⟨.inr BB.out.size,by simp⟩,fun j hj => ⟨.inl (HZ.out j hj),zn1 (HU.out j hj) (zn2 BB.out.size b3.size)⟩⟩,BB.out.trans (b3.mono BB.out.size)⟩
   clear b2 p0 p1 p2 p3 hW1 HSZ V2 h0
   go_wp2_with fail
   go_ret
   exact ⟨_,rfl,HW3.out⟩
  ·have g24 : decide (z <= 240) = false:=by rw [zn4]; exact h24
   have HN0 : Hid (n.ks.length ≠ 0):=by show _ ≠ _; rw [hL1.out]; exact h0
   have HN1 : Hid (240 < W (szN n n.ks.length)):=by show _ < _; rw [hL1.out,hzz.out]; omega
   obtain ⟨pp,hpp⟩:=exH (piecesF n)
   rw [hpp.out]
   have hbd:=zqn9
   go_enter Tryz.func142,Tryz.ntmps142
   go_wp2_with fail
   refine (HSZ.out W1 B1.out).mono ?_
   rintro e w2 ⟨rfl,b2⟩
   have V2:=V1.out.below b2
   have BB : Hid (Below w.heap.size w w2):=B1.out.trans (b2.mono B1.out.size)
   have q0:=V2.c0
   have q1:=V2.c1
   have q2:=V2.c2
   have q3:=V2.c3
   clear b2 p0 p1 p2 p3 hW1 HSZ V2 h0
   go_wp2_with fail
   refine (HSP.out w2 BB.out).mono ?_
   rintro e w3 ⟨⟨k1,k2,k3,o1,o2,o3,A,B,rfl,hA,hB,hR,fA,fB,uA,uB⟩,b3⟩
   have HPQ : Hid (pp = [A,B]):=by show _ = _; rw [<- hpp.out]; exact zfv9 HN0.out (Int.not_le.2 HN1.out) hR
   have B3 : Hid (Below w.heap.size w w3):=BB.out.trans (b3.mono BB.out.size)
   have hsz:=BB.out.size
   obtain ⟨x1,y1,x2,y2,x3,y3,rfl,rfl,rfl,_⟩:=hA.out
   obtain ⟨s1,t1,s2,t2,s3,t3,rfl,rfl,rfl,_⟩:=hB.out
   obtain ⟨A1,hA1⟩:=exH A.ks.length
   obtain ⟨A2,hA2⟩:=exH A.vs.length
   obtain ⟨A3,hA3⟩:=exH A.kd.length
   obtain ⟨E1,hE1⟩:=exH B.ks.length
   obtain ⟨E2,hE2⟩:=exH B.vs.length
   obtain ⟨E3,hE3⟩:=exH B.kd.length
   obtain ⟨fA',hfA⟩ : ∃ l,Hid (A.lf = l):=⟨_,rfl⟩
   obtain ⟨fB',hfB⟩ : ∃ l,Hid (B.lf = l):=⟨_,rfl⟩
   rw [hA1.out,hA2.out,hA3.out] at hA fA uA
   rw [hE1.out,hE2.out,hE3.out] at hB fB uB
   rw [hA1.out,hA2.out,hA3.out,hE1.out,hE2.out,hE3.out,hfA.out,hfB.out]
   have HA:=hideN hA
   have HB:=hideN hB
   have FA:=hideN fA
   have FB:=hideN fB
   have UA:=hideN uA
   have UB:=hideN uB
   unfold nod
   obtain ⟨YA,hYA⟩:=exN (w3.alloc (.cells #[.bool false,.slice none 0 0,.slice none 0 0,.slice none 0 0] 92))
   obtain ⟨YB,hYB⟩:=exN (YA.alloc (.cells #[.bool false,.slice none 0 0,.slice none 0 0,.slice none 0 0] 92))
   have sA : YA.heap.size = w3.heap.size + 1:=by rw [<- hYA]; simp
   have bA : Below w3.heap.size w3 YA:=by rw [<- hYA]; exact za9 _ _
   have bB : Below YA.heap.size YA YB:=by rw [<- hYB]; exact za9 _ _
   have NA0 : Nb YA 92 w3.heap.size false (.slice none 0 0) (.slice none 0 0) (.slice none 0 0):=by rw [<- hYA]; exact nb_new _ _ _ _ _ _
   have NA1:=NA0.below bB
   have NB1 : Nb YB 92 (w3.heap.size + 1) false (.slice none 0 0) (.slice none 0 0) (.slice none 0 0):=by rw [<- hYB,<- sA]; exact nb_new _ _ _ _ _ _
   have tA:=zg9 YB w3.heap.size (.bool fA') (.slice x1 A1 y1) (.slice x2 A2 y2) (.slice x3 A3 y3)
   have NA2:=NA1.all fA' (.slice x1 A1 y1) (.slice x2 A2 y2) (.slice x3 A3 y3)
   have NB2:=NB1.tch tA (by omega)
   obtain ⟨WA,hWA⟩:=exN (((((YB.setCell ⟨w3.heap.size,0,none⟩ (.bool fA')).setCell ⟨w3.heap.size,1,none⟩ (.slice x1 A1 y1)).setCell ⟨w3.heap.size,2,none⟩ (.slice x2 A2 y2)).setCell ⟨w3.heap.size,3,none⟩ (.slice x3 A3 y3)))
   rw [hWA] at tA NA2 NB2
   have tB:=zg9 WA (w3.heap.size + 1) (.bool fB') (.slice s1 E1 t1) (.slice s2 E2 t2) (.slice s3 E3 t3)
   have NB3:=NB2.all fB' (.slice s1 E1 t1) (.slice s2 E2 t2) (.slice s3 E3 t3)
   have NA3:=NA2.tch tB (by omega)
   obtain ⟨WB,hWB⟩:=exN (((((WA.setCell ⟨w3.heap.size + 1,0,none⟩ (.bool fB')).setCell ⟨w3.heap.size + 1,1,none⟩ (.slice s1 E1 t1)).setCell ⟨w3.heap.size + 1,2,none⟩ (.slice s2 E2 t2)).setCell ⟨w3.heap.size + 1,3,none⟩ (.slice s3 E3 t3)))
   rw [hWB] at tB NB3 NA3
   have b4 : Below w3.heap.size w3 WB:=by
    have h1 : Below w3.heap.size w3 YB:=bA.trans (bB.mono bA.size)
    have h2 : Below w3.heap.size w3 WA:=h1.trans (tA.below h1.size (fun j e => by omega))
    exact h2.trans (tB.below h2.size (fun j e => by omega))
   have HFIN : Hid (Ps (fun j => (Z j ∨ w.heap.size <= j) /\ j < (WB.alloc (.cells #[.bool fA',.slice x1 A1 y1,.slice x2 A2 y2,.slice x3 A3 y3,.bool fB',.slice s1 E1 t1,.slice s2 E2 t2,.slice s3 E3 t3] 92)).heap.size) (WB.alloc (.cells #[.bool fA',.slice x1 A1 y1,.slice x2 A2 y2,.slice x3 A3 y3,.bool fB',.slice s1 E1 t1,.slice s2 E2 t2,.slice s3 E3 t3] 92)) (.slice (some ⟨WB.heap.size,0,none⟩) 2 2) pp /\ Below w.heap.size w (WB.alloc (.cells #[.bool fA',.slice x1 A1 y1,.slice x2 A2 y2,.slice x3 A3 y3,.bool fB',.slice s1 E1 t1,.slice s2 E2 t2,.slice s3 E3 t3] 92))):=by
    have b5:=za9 WB (.cells #[.bool fA',.slice x1 A1 y1,.slice x2 A2 y2,.slice x3 A3 y3,.bool fB',.slice s1 E1 t1,.slice s2 E2 t2,.slice s3 E3 t3] 92)
    have b45 : Below w.heap.size w WB:=B3.out.trans (b4.mono B3.out.size)
    refine ⟨?_,b45.trans (b5.mono b45.size)⟩
    rw [HPQ.out]
    exact ⟨_,_,_,_,_,_,_,rfl,by rw [hfA.out,hfB.out]; exact heap_alloc_new WB _,(HA.out.below b4).below b5,(HB.out.below b4).below b5,⟨.inr b45.size,by simp⟩,fun j hj => ⟨.inr (zn2 hsz (FA.out j hj)),zn1 (UA.out j hj) (zn2 b4.size b5.size)⟩,fun j hj => ⟨.inr (zn2 hsz (FB.out j hj)),zn1 (UB.out j hj) (zn2 b4.size b5.size)⟩⟩
   have p0:=NA1.c0
   have p1:=NA1.c1
   have p2:=NA1.c2
   have p3:=NA1.c3
   have f0:=NA1.fz 0
   have f1:=NA1.fz 1
   have f2:=NA1.fz 2
   have f3:=NA1.fz 3
   have y0:=NB2.c0
   have y1':=NB2.c1
   have y2':=NB2.c2
   have y3':=NB2.c3
   have g0:=NB2.fz 0
   have g1:=NB2.fz 1
   have g2:=NB2.fz 2
   have g3:=NB2.fz 3
   have r0:=NA3.c0
   have r1:=NA3.c1
   have r2:=NA3.c2
   have r3:=NA3.c3
   have v0:=NB3.c0
   have v1:=NB3.c1
   have v2:=NB3.c2
   have v3:=NB3.c3
   clear hA hB hR fA fB uA uB b3 hsz bA bB NA0 NA1 NB1 tA NA2 NB2 tB NB3 NA3 b4 q0 q1 q2 q3 HSP
   go_wp2_with fail
   go_ret
   exact ⟨_,rfl,HFIN.out⟩
end Go.Proofs.YtcbnmjgbnbokgaaGreat
