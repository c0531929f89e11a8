import Derived.Test.YtjhccpijpffahaaGreatPNCut
import Derived.Test.YtjhccpijpffahaaGreatPNRead
import Derived.Test.YtjhccpijpffahaaGreatPPlain
import Derived.Test.YtjhccpijpffahaaGreatPNPl
import Derived.Lib.Walk
import Derived.Lib.Bytes
set_option maxRecDepth 100000
set_option linter.unusedVariables false
set_option linter.unusedSimpArgs false
set_option maxHeartbeats 8000000
namespace Go.Proofs.YtjhccpijpffahaaGreat
open Go.RowKit Pl
structure AS where
 V : Int -> Int × Nd
 Q : Int -> Int × Nd
 A : Ah.St
 F : Int -> Bool
structure CH where
 lv : Nat
 tk : List Int
 gn : List Int
noncomputable def vwB (e : Int) (b : Int × List Int) : Int × Nd:=if e = 0 then (match getN b.1 b.2 with | some n => (0,n) | none => (7,noneN)) else (e,noneN)
def look (a : AS) (x : Int) (lv : Nat) : Int × Nd:=if 16 < lv then (7,noneN) else a.V x
def updI {α : Type} (f : Int -> α) (x : Int) (y : α) (m : Int) : α:=if m = x then y else f m
theorem zca9 {α : Type} (f : Int -> α) (x : Int) (y : α) : updI f x y x = y:=if_pos rfl
theorem zcp9 {α : Type} (f : Int -> α) {x m : Int} (y : α) (h : m ≠ x) : updI f x y m = f m:=if_neg h
def AS.wr (a : AS) (n : Nd) : AS:={ V:=updI a.V (Ah.take a.A).1 (0,n),Q:=a.Q,A:=(Ah.take a.A).2.2,F:=updI a.F (Ah.take a.A).1 true }
def AS.go (a : AS) (x : Int) : AS:={ V:=updI a.V x (a.Q x),Q:=a.Q,A:=(Ah.back x a.A).2,F:=updI a.F x false }
def AS.gos (a : AS) (l : List Int) : AS:=l.foldl AS.go a
theorem zhd9 (a : AS) : a.gos [] = a:=rfl
theorem zfz9 (a : AS) (x : Int) (l : List Int) : a.gos (x :: l) = (a.go x).gos l:=rfl
structure WR where
 x : Int
 e : Int
 a : AS
 c : CH
noncomputable def writeF (a : AS) (c : CH) (n : Nd) : WR:=
 if mayN n = true then (if (Ah.take a.A).2.1 = true then ⟨(Ah.take a.A).1,0,a.wr n,{ c with tk:=c.tk ++ [(Ah.take a.A).1] }⟩ else ⟨0,10,a,c⟩) else ⟨0,7,a,c⟩
def leaveF (a : AS) (c : CH) (x : Int) : CH:=if a.F x = true then { c with gn:=c.gn ++ [x] } else c
open Classical in
noncomputable def midF (n : Nd) : Nat:=if h : ∃ m,MidR n m then h.choose else 0
theorem zou9 {n : Nd} {m : Nat} (h : MidR n m) : midF n = m:=by
 have : ∃ m,MidR n m:=⟨m,h⟩
 unfold midF
 rw [dif_pos this]
 exact this.choose_spec.same h
noncomputable def piecesF (n : Nd) : List Nd:=
 if n.ks.length = 0 then [] else if W (szN n n.ks.length) <= 240 then [n] else if n.ks.length < 2 then [joinN n noneN,noneN] else [takeN n (midF n),dropN n (midF n)]
structure KR where
 e : Int
 xs : List Int
 a : AS
 c : CH
noncomputable def kidsF (a : AS) (c : CH) : List Nd -> KR
 | [] => ⟨0,[],a,c⟩
 | p :: r => if (writeF a c p).e ≠ 0 then ⟨(writeF a c p).e,[],(writeF a c p).a,(writeF a c p).c⟩ else
   ⟨(kidsF (writeF a c p).a (writeF a c p).c r).e,(writeF a c p).x :: (kidsF (writeF a c p).a (writeF a c p).c r).xs,(kidsF (writeF a c p).a (writeF a c p).c r).a,(kidsF (writeF a c p).a (writeF a c p).c r).c⟩
def keysF (k : ByteArray) : List Nd -> List ByteArray
 | [] => []
 | p :: r => k :: r.map (fun q => kA q 0)
def zai9 (n : Nd) (i j : Nat) (ks : List ByteArray) (xs : List Int) : Nd:={ n with ks:=n.ks.take i ++ (ks ++ n.ks.drop j),kd:=n.kd.take i ++ (xs ++ n.kd.drop j) }
structure NR where
 e : Int
 n : Nd
 a : AS
 c : CH
noncomputable def replaceF (a : AS) (c : CH) (n : Nd) (i j : Nat) (ps : List Nd) : NR:=
 if (kidsF a c ps).e ≠ 0 then ⟨(kidsF a c ps).e,noneN,(kidsF a c ps).a,(kidsF a c ps).c⟩ else ⟨0,zai9 n i j (keysF (kA n i) ps) (kidsF a c ps).xs,(kidsF a c ps).a,(kidsF a c ps).c⟩
structure JR where
 e : Int
 n : Nd
 i : Nat
 j : Nat
 c : CH
noncomputable def besF (a : AS) (c : CH) (n : Nd) (at_ lv : Nat) (p : Nd) (b : Int) : Option JR:=
 if b < 0 ∨ (n.kd.length : Int) <= b then none else
 if (look a (dA n b.toNat) (lv + 1)).1 ≠ 0 then some ⟨(look a (dA n b.toNat) (lv + 1)).1,noneN,0,0,c⟩ else
 if b < (at_ : Int) then
  (if mayN (joinN (look a (dA n b.toNat) (lv + 1)).2 p) = true then some ⟨0,joinN (look a (dA n b.toNat) (lv + 1)).2 p,b.toNat,b.toNat + 2,leaveF a c (dA n b.toNat)⟩ else none)
 else (if mayN (joinN p (look a (dA n b.toNat) (lv + 1)).2) = true then some ⟨0,joinN p (look a (dA n b.toNat) (lv + 1)).2,at_,at_ + 2,leaveF a c (dA n b.toNat)⟩ else none)
noncomputable def joinedF (a : AS) (c : CH) (n : Nd) (at_ lv : Nat) (p : Nd) : JR:=
 match besF a c n at_ lv p ((at_ : Int) - 1) with
 | some r => r
 | none => match besF a c n at_ lv p ((at_ : Int) + 1) with
  | some r => r
  | none => ⟨0,p,at_,at_ + 1,c⟩
def minS (x y : ByteArray) : ByteArray:=if lts y x = true then y else x
structure CD where
 key : ByteArray
 lf : Nd -> Nd
 jn : Bool
structure BR where
 e : Int
 ps : List Nd
 a : AS
 c : CH
noncomputable def upF (d : CD) (n : Nd) (lv : Nat) (r : BR) : BR:=
 if r.e ≠ 0 then ⟨r.e,[],r.a,r.c⟩ else
 let at_:=plc n d.key n.ks.length
 let n1 : Nd:={ n with ks:=n.ks.set at_ (minS (kA n at_) d.key) }
 let q : JR × List Nd:=if d.jn = true /\ r.ps.length = 1 /\ W (szN (r.ps.getD 0 noneN) (r.ps.getD 0 noneN).ks.length) < 120 then (joinedF r.a r.c n1 at_ lv (r.ps.getD 0 noneN),[(joinedF r.a r.c n1 at_ lv (r.ps.getD 0 noneN)).n]) else (⟨0,noneN,at_,at_ + 1,r.c⟩,r.ps)
 if q.1.e ≠ 0 then ⟨q.1.e,[],r.a,q.1.c⟩ else
 if (replaceF r.a q.1.c n1 q.1.i q.1.j q.2).e ≠ 0 then ⟨(replaceF r.a q.1.c n1 q.1.i q.1.j q.2).e,[],(replaceF r.a q.1.c n1 q.1.i q.1.j q.2).a,(replaceF r.a q.1.c n1 q.1.i q.1.j q.2).c⟩ else
 ⟨0,piecesF (replaceF r.a q.1.c n1 q.1.i q.1.j q.2).n,(replaceF r.a q.1.c n1 q.1.i q.1.j q.2).a,(replaceF r.a q.1.c n1 q.1.i q.1.j q.2).c⟩
noncomputable def belowF (d : CD) : Nat -> AS -> CH -> Int -> Nat -> BR
 | 0,a,c,x,lv => ⟨7,[],a,c⟩
 | f + 1,a,c,x,lv =>
  if (look a x lv).1 ≠ 0 then ⟨(look a x lv).1,[],a,c⟩ else
  if (look a x lv).2.lf = true then ⟨0,piecesF (d.lf (look a x lv).2),a,{ leaveF a c x with lv:=lv }⟩ else
  upF d (look a x lv).2 lv (belowF d f a (leaveF a c x) (dA (look a x lv).2 (plc (look a x lv).2 d.key (look a x lv).2.ks.length)) (lv + 1))
def leaf0 : Nd:={ lf:=true,ks:=[],vs:=[],kd:=[] }
noncomputable def partsF (d : CD) (a : AS) (c : CH) (x : Int) : BR:=if x = 0 then ⟨0,piecesF (d.lf leaf0),a,c⟩ else belowF d 16 a c x 1
def top0 : Nd:={ lf:=false,ks:=[eS],vs:=[],kd:=[0] }
noncomputable def raiseF (a : AS) (c : CH) (ps : List Nd) : WR:=
 if c.lv = 16 then ⟨0,7,a,c⟩ else
 if (replaceF a c top0 0 1 ps).e ≠ 0 then ⟨0,(replaceF a c top0 0 1 ps).e,(replaceF a c top0 0 1 ps).a,(replaceF a c top0 0 1 ps).c⟩ else
 writeF (replaceF a c top0 0 1 ps).a (replaceF a c top0 0 1 ps).c (replaceF a c top0 0 1 ps).n
noncomputable def rootedF (d : CD) (a : AS) (c : CH) (x : Int) : WR:=
 let r:=partsF d a c x
 if r.e ≠ 0 then ⟨0,r.e,r.a,r.c⟩ else
 if r.ps.length = 0 then ⟨0,0,r.a,r.c⟩ else
 if r.ps.length = 1 then (if (r.ps.getD 0 noneN).kd.length = 1 then ⟨dA (r.ps.getD 0 noneN) 0,0,r.a,r.c⟩ else writeF r.a r.c (r.ps.getD 0 noneN)) else raiseF r.a r.c r.ps
def ch0 : CH:=⟨0,[],[]⟩
structure MR where
 x : Int
 e : Int
 a : AS
noncomputable def madeF (d : CD) (a : AS) (x : Int) : MR:=
 let r:=rootedF d a ch0 x
 if r.e ≠ 0 then ⟨0,r.e,r.a.gos r.c.tk⟩ else ⟨r.x,0,r.a.gos r.c.gn⟩
def insL (key val : ByteArray) (n : Nd) : Nd:=
 let at_:=plc n key n.ks.length
 if at_ < n.ks.length /\ eqs (kA n at_) key = true then { n with vs:=n.vs.set at_ val } else { n with ks:=n.ks.take at_ ++ (key :: n.ks.drop at_),vs:=(n.vs.take at_ ++ (eS :: n.vs.drop at_)).set at_ val }
def delL (key : ByteArray) (n : Nd) : Nd:=
 let at_:=plc n key n.ks.length
 if at_ < n.ks.length /\ eqs (kA n at_) key = true then { n with ks:=n.ks.take at_ ++ n.ks.drop (at_ + 1),vs:=n.vs.take at_ ++ n.vs.drop (at_ + 1) } else n
noncomputable def putF (a : AS) (x : Int) (key val : ByteArray) : MR:=
 if eqs key eS = true ∨ 24 < key.size ∨ 24 < val.size then ⟨0,1,a⟩ else madeF ⟨key,insL key val,false⟩ a x
structure WD (σ : Type) where
 st : σ -> Int -> Nd -> σ × List Int
 en : σ -> Bool
structure DR (σ : Type) where
 e : Int
 s : σ
 z : List Int
def goF {σ : Type} (en : σ -> Bool) (rec : σ -> List Int -> Int -> DR σ) : List Int -> σ -> List Int -> DR σ
 | [],s,z => ⟨0,s,z⟩
 | k :: r,s,z => if en s = true then ⟨0,s,z⟩ else if (rec s z k).e ≠ 0 then rec s z k else goF en rec r (rec s z k).s (rec s z k).z
def downF {σ : Type} (D : WD σ) (a : AS) : Nat -> Nat -> σ -> List Int -> Int -> DR σ
 | 0,lv,s,z,x => if x ∈ z then ⟨7,s,z⟩ else ⟨7,s,x :: z⟩
 | f + 1,lv,s,z,x => if x ∈ z then ⟨7,s,z⟩ else if (look a x lv).1 ≠ 0 then ⟨(look a x lv).1,s,x :: z⟩ else
   goF D.en (downF D a f (lv + 1)) (D.st s x (look a x lv).2).2 (D.st s x (look a x lv).2).1 (x :: z)
def fromF {σ : Type} (D : WD σ) (a : AS) (s : σ) (x : Int) : DR σ:=if x = 0 then ⟨0,s,[]⟩ else downF D a 16 1 s [] x
def getW (key : ByteArray) : WD (ByteArray × Bool) where
 st:=fun s x n => if n.lf = true then (if plc n key n.ks.length < n.ks.length /\ eqs (kA n (plc n key n.ks.length)) key = true then (vA n (plc n key n.ks.length),true) else s,[]) else (s,[dA n (plc n key n.ks.length)])
 en:=fun _ => false
def getF (a : AS) (x : Int) (key : ByteArray) : DR (ByteArray × Bool):=fromF (getW key) a (eS,false) x
structure ER where
 x : Int
 ok : Bool
 e : Int
 a : AS
noncomputable def delF (a : AS) (x : Int) (key : ByteArray) : ER:=
 if (getF a x key).e ≠ 0 then ⟨0,false,(getF a x key).e,a⟩ else if (getF a x key).s.2 = true then
  ⟨(madeF ⟨key,delL key,true⟩ a x).x,decide ((madeF ⟨key,delL key,true⟩ a x).e = 0),(madeF ⟨key,delL key,true⟩ a x).e,(madeF ⟨key,delL key,true⟩ a x).a⟩ else ⟨x,false,0,a⟩
theorem zhc9 {α : Type} (l : List α) (d : α) (k i : Nat) : (l.take k).getD i d = if i < k then l.getD i d else d:=by
 rw [zn3,List.getElem?_take]
 split
 ·rw [zn3]
 ·rfl
theorem zrk9 (n : Nd) {k i : Nat} (h : i < k) : szA (takeN n k) i = szA n i:=by
 have h1 : kA (takeN n k) i = kA n i:=by show (n.ks.take k).getD i eS = _; rw [zhc9,if_pos h]; rfl
 have h2 : vA (takeN n k) i = vA n i:=by show (n.vs.take k).getD i eS = _; rw [zhc9,if_pos h]; rfl
 have h3 : (i < (takeN n k).kd.length) = (i < n.kd.length):=by
  have : (takeN n k).kd.length = min k n.kd.length:=by simp [takeN]
  rw [this]
  exact propext ⟨fun h => by omega,fun h => by omega⟩
 unfold szA
 rw [h1,h2]
 simp only [h3]
 rfl
theorem zlw9 (n : Nd) (k : Nat) : ∀ j,j <= k -> szN (takeN n k) j = szN n j
 | 0,_ => rfl
 | j + 1,h => by
  show szN (takeN n k) j + szA (takeN n k) j = szN n j + szA n j
  rw [zlw9 n k j (by omega),zrk9 n (by omega)]
theorem zkp9 (n : Nd) {k : Nat} (h : k <= n.ks.length) : (takeN n k).ks.length = k:=by simp only [takeN,List.length_take]; omega
theorem zrj9 (n : Nd) (k i : Nat) : szA (dropN n k) i = szA n (k + i):=by
 have h1 : kA (dropN n k) i = kA n (k + i):=by
  show (n.ks.drop k).getD i eS = n.ks.getD (k + i) eS
  rw [zn3,List.getElem?_drop,<- zn3]
 have h2 : vA (dropN n k) i = vA n (k + i):=by
  show (n.vs.drop k).getD i eS = n.vs.getD (k + i) eS
  rw [zn3,List.getElem?_drop,<- zn3]
 have h3 : (i < (dropN n k).kd.length) = (k + i < n.kd.length):=by
  have : (dropN n k).kd.length = n.kd.length - k:=by simp [dropN]
  rw [this]
  exact propext ⟨fun h => by omega,fun h => by omega⟩
 unfold szA
 rw [h1,h2]
 simp only [h3]
 rfl
theorem zgm9 (n : Nd) (k : Nat) : ∀ j,szN (dropN n k) j + szN n k = szN n (k + j) + 1
 | 0 => by show 1 + szN n k = szN n k + 1; omega
 | j + 1 => by
  have:=zgm9 n k j
  show szN (dropN n k) j + szA (dropN n k) j + szN n k = szN n (k + j) + szA n (k + j) + 1
  rw [zrj9]
  omega
theorem zkc9 {n : Nd} {m : Nat} (h : MidR n m) (h50 : ∀ i,i < n.ks.length -> szA n i <= 50) (hbig : 240 < szN n n.ks.length) (hmax : szN n n.ks.length <= 292) :
  szN (takeN n m) m <= 240 /\ szN (dropN n m) (n.ks.length - m) <= 240:=by
 have hl:=h.lt
 have h1:=h.one
 have hm : ∀ k,k <= n.ks.length -> szN n k <= szN n n.ks.length:=by
  intro k hk
  obtain ⟨d,hd⟩ : ∃ d,k + d = n.ks.length:=⟨_,Nat.add_sub_of_le hk⟩
  rw [<- hd]
  clear hd hk
  induction d with
  | zero => exact zn6 _
  | succ d ih => show _ <= szN n (k + d) + szA n (k + d); omega
 have hW : ∀ k,k <= n.ks.length -> W (szN n k) = (szN n k : Int):=fun k hk => zax9 (by have:=hm k hk; omega)
 have hh : hlfN n = ((szN n n.ks.length / 2 : Nat) : Int):=by
  unfold hlfN
  rw [hW _ (zn6 _)]
  rcases tdiv2 (szN n n.ks.length : Int) with ⟨_,e⟩ | ⟨c,_⟩
  ·rw [e]; omega
  ·omega
 have hd:=zgm9 n m (n.ks.length - m)
 rw [Nat.add_sub_of_le (by omega)] at hd
 rw [zlw9 n m m (zn6 _)]
 have hst : szN n m = szN n (m - 1) + szA n (m - 1):=by
  obtain ⟨q,rfl⟩ : ∃ q,m = q + 1:=⟨m - 1,by omega⟩
  rfl
 have ha:=h50 (m - 1) (by omega)
 have hmm:=hm m (by omega)
 constructor
 ·by_cases c : m = 1
  ·subst c
   have : szN n (1 - 1) = 1:=rfl
   omega
  ·have:=h.no (m - 1) (by omega) (by omega)
   rw [hW _ (by omega),hh] at this
   omega
 ·rcases h.yes with e | e
  ·have e1 : n.ks.length = m + 1:=by omega
   have hst2 : szN n n.ks.length = szN n m + szA n m:=by rw [e1]; rfl
   have:=h50 m (by omega)
   omega
  ·rw [hh,hW _ (by omega)] at e
   omega
end Go.Proofs.YtjhccpijpffahaaGreat
namespace Go.Proofs.YtjhccpijpffahaaGreat
open Go.RowKit
abbrev Kl (a b : ByteArray) : Prop:=lts a b = true
abbrev Ke (a b : ByteArray) : Prop:=lts b a = false
theorem zgw9 : ∀ x y z : List UInt8,Op.bytesLess x y = true -> Op.bytesLess y z = true -> Op.bytesLess x z = true
 | [],_,[],h1,h2 => by
  rename_i y
  cases y with
  | nil => simp [Op.bytesLess] at h1
  | cons => simp [Op.bytesLess] at h2
 | [],_,_ :: _,_,_ => rfl
 | _ :: _,[],_,h1,_ => by simp [Op.bytesLess] at h1
 | _ :: _,_ :: _,[],_,h2 => by simp [Op.bytesLess] at h2
 | a :: x,b :: y,c :: z,h1,h2 => by
  unfold Op.bytesLess at h1 h2 ⊢
  simp only [Bool.or_eq_true,decide_eq_true_eq,Bool.and_eq_true,beq_iff_eq] at h1 h2 ⊢
  rcases h1 with h1 | ⟨rfl,h1⟩
  ·rcases h2 with h2 | ⟨rfl,h2⟩
   ·exact .inl (UInt8.lt_trans h1 h2)
   ·exact .inl h1
  ·rcases h2 with h2 | ⟨rfl,h2⟩
   ·exact .inl h2
   ·exact .inr ⟨rfl,zgw9 x y z h1 h2⟩
theorem zji9 : ∀ x : List UInt8,Op.bytesLess x x = false
 | [] => rfl
 | a :: x => by
  unfold Op.bytesLess
  simp [zji9 x]
theorem zof9 : ∀ x y : List UInt8,Op.bytesLess x y = true ∨ x = y ∨ Op.bytesLess y x = true
 | [],[] => .inr (.inl rfl)
 | [],_ :: _ => .inl rfl
 | _ :: _,[] => .inr (.inr rfl)
 | a :: x,b :: y => by
  unfold Op.bytesLess
  simp only [Bool.or_eq_true,decide_eq_true_eq,Bool.and_eq_true,beq_iff_eq]
  by_cases h : a < b
  ·exact .inl (.inl h)
  ·by_cases h2 : b < a
   ·exact .inr (.inr (.inl h2))
   ·have e : a = b:=UInt8.le_antisymm (UInt8.not_lt.1 h2) (UInt8.not_lt.1 h)
    subst e
    rcases zof9 x y with h | h | h
    ·exact .inl (.inr ⟨rfl,h⟩)
    ·exact .inr (.inl (by rw [h]))
    ·exact .inr (.inr (.inr ⟨rfl,h⟩))
section
variable {a b c : ByteArray}
theorem Kl.irr (h : Kl a a) : False:=by have:=zji9 a.toList; unfold Kl lts at h; rw [this] at h; cases h
theorem Kl.trans (h : Kl a b) (h2 : Kl b c) : Kl a c:=zgw9 _ _ _ h h2
theorem Kl.le (h : Kl a b) : Ke a b:=by
 show lts b a = false
 cases e : lts b a with
 | false => rfl
 | true => exact (Kl.irr (h.trans e)).elim
theorem k_tri (a b : ByteArray) : Kl a b ∨ a = b ∨ Kl b a:=by
 rcases zof9 a.toList b.toList with h | h | h
 ·exact .inl h
 ·refine .inr (.inl ?_)
  rw [Go.Lib.toList_data,Go.Lib.toList_data] at h
  cases a; cases b
  simp only [ByteArray.mk.injEq] at *
  exact Array.ext' h
 ·exact .inr (.inr h)
theorem Ke.or (h : Ke a b) : Kl a b ∨ a = b:=by
 rcases k_tri a b with e | e | e
 ·exact .inl e
 ·exact .inr e
 ·have h' : lts b a = false:=h
  have e' : lts b a = true:=e
  rw [h'] at e'; cases e'
theorem Ke.refl (a : ByteArray) : Ke a a:=zji9 _
theorem Kl.trans_le (h : Kl a b) (h2 : Ke b c) : Kl a c:=by
 rcases h2.or with e | e
 ·exact h.trans e
 ·rw [<- e]; exact h
theorem Ke.trans_lt (h : Ke a b) (h2 : Kl b c) : Kl a c:=by
 rcases h.or with e | e
 ·exact e.trans h2
 ·rw [e]; exact h2
theorem Ke.trans (h : Ke a b) (h2 : Ke b c) : Ke a c:=by
 rcases h.or with e | e
 ·exact (e.trans_le h2).le
 ·rw [e]; exact h2
theorem Ke.not (h : Ke a b) (h2 : Kl b a) : False:=by have h' : lts b a = false:=h; have e' : lts b a = true:=h2; rw [h'] at e'; cases e'
theorem Ke.none (a : ByteArray) : Ke eS a:=by
 show Op.bytesLess a.toList _ = false
 have : eS.toList = []:=by rw [Go.Lib.toList_data]; rfl
 rw [this]
 cases a.toList <;> rfl
theorem eqsP : eqs a b = true ↔ a = b:=by
 unfold eqs
 rw [beq_iff_eq,Go.Lib.toList_data,Go.Lib.toList_data]
 constructor
 ·intro h; cases a; cases b; simp only [ByteArray.mk.injEq] at *; exact Array.ext' h
 ·intro h; rw [h]
theorem zqv9 (a b : ByteArray) : Ke (minS a b) a:=by
 unfold minS
 split
 ·rename_i h; exact Kl.le h
 ·exact Ke.refl _
theorem zqw9 (a b : ByteArray) : Ke (minS a b) b:=by
 unfold minS
 split
 ·exact Ke.refl _
 ·rename_i h; show lts b a = false; simpa using h
theorem zov9 (h : Ke a b) : minS a b = a:=by unfold minS; rw [if_neg (by rw [h]; decide)]
end
def Lh (k : ByteArray) (hi : Option ByteArray) : Prop:=∀ b,hi = some b -> Kl k b
def Hle (hi hj : Option ByteArray) : Prop:=∀ b,hj = some b -> ∃ c,hi = some c /\ Ke c b
theorem Hle.refl (hi : Option ByteArray) : Hle hi hi:=fun b h => ⟨b,h,Ke.refl b⟩
theorem Hle.none (hi : Option ByteArray) : Hle hi none:=fun b h => by cases h
theorem Lh.mono {k : ByteArray} {hi hj : Option ByteArray} (h : Lh k hi) (h2 : Hle hi hj) : Lh k hj:=fun b hb => by
 obtain ⟨c,hc,e⟩:=h2 b hb
 exact (h c hc).trans_le e
theorem Lh.le {k j : ByteArray} {hi : Option ByteArray} (h : Lh k hi) (h2 : Ke j k) : Lh j hi:=fun b hb => h2.trans_lt (h b hb)
def Rg (lo : ByteArray) (hi : Option ByteArray) (ks : List ByteArray) : Prop:=∀ k ∈ ks,Ke lo k /\ Lh k hi
theorem Rg.mono {lo lo' : ByteArray} {hi hi' : Option ByteArray} {ks : List ByteArray} (h : Rg lo hi ks) (h1 : Ke lo' lo) (h2 : Hle hi hi') : Rg lo' hi' ks:=fun k hk => ⟨h1.trans (h k hk).1,(h k hk).2.mono h2⟩
def nxt (ks : List ByteArray) (hi : Option ByteArray) : Option ByteArray:=match ks with
 | [] => hi
 | k :: _ => some k
def kSum (l : List ByteArray) : Nat:=(l.map ByteArray.size).sum
theorem zgb9 : kSum [] = 0:=rfl
theorem zaf9 (a : ByteArray) (l : List ByteArray) : kSum (a :: l) = a.size + kSum l:=by simp [kSum]
theorem zah9 (l m : List ByteArray) : kSum (l ++ m) = kSum l + kSum m:=by simp [kSum]
theorem take_succ' {α : Type} (d : α) (l : List α) (k : Nat) (h : k < l.length) : l.take (k + 1) = l.take k ++ [l.getD k d]:=by
 rw [List.take_add_one,zn3,List.getElem?_eq_getElem h]; rfl
theorem zly9 {n : Nd} (h : n.lf = true) (hv : n.vs.length = n.ks.length) : ∀ k,k <= n.ks.length -> szN n k = 1 + (kSum (n.ks.take k) + kSum (n.vs.take k) + 2 * k)
 | 0,_ => by simp [szN,kSum]
 | k + 1,hk => by
  have:=zly9 h hv k (by omega)
  rw [take_succ' eS _ _ (by omega),take_succ' eS n.vs _ (by omega),zah9,zah9]
  simp only [szN,szA,h,if_true,zaf9,zgb9,kA,vA]
  omega
theorem zhv9 {n : Nd} (h : n.lf = false) (hv : n.kd.length = n.ks.length) : ∀ k,k <= n.ks.length -> szN n k = 1 + (kSum (n.ks.take k) + 3 * k)
 | 0,_ => by simp [szN,kSum]
 | k + 1,hk => by
  have:=zhv9 h hv k (by omega)
  have hlt : k < n.kd.length:=by omega
  rw [take_succ' eS _ _ (by omega),zah9]
  simp only [szN,szA,h,Bool.false_eq_true,if_false,zaf9,zgb9,kA,if_pos hlt]
  omega
def sz (n : Nd) : Nat:=szN n n.ks.length
theorem zbl9 {n : Nd} (h : n.lf = true) (hv : n.vs.length = n.ks.length) : sz n = 1 + (kSum n.ks + kSum n.vs + 2 * n.ks.length):=by
 unfold sz; rw [zly9 h hv _ (zn6 _),List.take_length,zn5 (by omega)]
theorem zbd9 {n : Nd} (h : n.lf = false) (hv : n.kd.length = n.ks.length) : sz n = 1 + (kSum n.ks + 3 * n.ks.length):=by
 unfold sz; rw [zhv9 h hv _ (zn6 _),List.take_length]
theorem zkl9 {l : List ByteArray} {m : Nat} (h : ∀ k ∈ l,k.size <= m) : kSum l <= m * l.length:=by
 induction l with
 | nil => simp [kSum]
 | cons a l ih =>
  have h1:=h a List.mem_cons_self
  have h2:=ih (fun k hk => h k (List.mem_cons_of_mem _ hk))
  rw [zaf9,List.length_cons,Nat.mul_succ]
  omega
structure Bm (n : Nd) : Prop where
 ks : ∀ k ∈ n.ks,k.size <= 24
 up : n.ks.Pairwise Kl
 ne : n.lf = true -> ∀ k ∈ n.ks,k ≠ eS
 lf : n.lf = true -> n.vs.length = n.ks.length /\ n.kd = [] /\ ∀ v ∈ n.vs,v.size <= 24
 inn : n.lf = false -> n.kd.length = n.ks.length /\ n.vs = [] /\ ∀ x ∈ n.kd,0 <= x /\ x <= 65535
theorem zan9 {α : Type} {l : List α} {d : α} {i : Nat} (h : i < l.length) : l.getD i d ∈ l:=by
 rw [zn3,List.getElem?_eq_getElem h]; exact List.getElem_mem h
theorem Bm.szle {n : Nd} (h : Bm n) : sz n <= 1 + 50 * n.ks.length:=by
 cases e : n.lf with
 | true =>
  obtain ⟨h1,_,h2⟩:=h.lf e
  have:=zkl9 h.ks
  have:=zkl9 h2
  rw [zbl9 e h1]; rw [h1] at *; omega
 | false =>
  have:=zkl9 h.ks
  rw [zbd9 e (h.inn e).1]; omega
theorem Bm.may {n : Nd} (h : Bm n) (h1 : 1 <= n.ks.length) (h2 : sz n <= 240) : mayN n = true:=by
 rw [zw9]
 refine ⟨h1,by rw [zax9 (by unfold sz at h2; omega)]; unfold sz at h2; omega,fun i hi => ⟨h.ks _ (zan9 hi),fun h0 => ?_,fun hl => ?_⟩,?_⟩
 ·have:=List.pairwise_iff_getElem.1 h.up (i - 1) i (by omega) hi (by omega)
  unfold kA
  rw [zn3,zn3,List.getElem?_eq_getElem hi,List.getElem?_eq_getElem (by omega)]
  exact this
 ·cases e : eqs (kA n i) eS with
  | false => rfl
  | true => exact absurd (eqsP.1 e) (h.ne hl _ (zan9 hi))
 ·cases e : n.lf with
  | true =>
   obtain ⟨e1,e2,e3⟩:=h.lf e
   rw [if_pos rfl]
   exact ⟨fun i hi => e3 _ (zan9 hi),e1,by rw [e2]; rfl⟩
  | false =>
   obtain ⟨e1,e2,e3⟩:=h.inn e
   rw [if_neg (by decide)]
   exact ⟨fun i hi => e3 _ (zan9 hi),e1,by rw [e2]; rfl⟩
theorem may_sz {n : Nd} (h : Bm n) (hl : n.ks.length <= 1000) (hm : mayN n = true) : 1 <= n.ks.length /\ sz n <= 240:=by
 obtain ⟨h1,h2,_⟩:=zw9.1 hm
 have:=h.szle
 unfold sz at *
 rw [zax9 (by omega)] at h2
 exact ⟨h1,by omega⟩
theorem Bm.many {n : Nd} (h : Bm n) (h2 : sz n <= 292) : n.ks.length <= 292:=by have:=szN_ge n n.ks.length; unfold sz at h2; omega
theorem Bm.take {n : Nd} (h : Bm n) (m : Nat) : Bm (takeN n m) where
 ks:=fun k hk => h.ks k (List.mem_of_mem_take hk)
 up:=h.up.sublist (List.take_sublist _ _)
 ne:=fun e k hk => h.ne e k (List.mem_of_mem_take hk)
 lf:=fun e => by
  obtain ⟨h1,h2,h3⟩:=h.lf e
  refine ⟨by simp only [takeN,List.length_take]; omega,by show n.kd.take m = []; rw [h2]; simp,fun v hv => h3 v (List.mem_of_mem_take hv)⟩
 inn:=fun e => by
  obtain ⟨h1,h2,h3⟩:=h.inn e
  refine ⟨by simp only [takeN,List.length_take]; omega,by show n.vs.take m = []; rw [h2]; simp,fun v hv => h3 v (List.mem_of_mem_take hv)⟩
theorem Bm.drop {n : Nd} (h : Bm n) (m : Nat) : Bm (dropN n m) where
 ks:=fun k hk => h.ks k (List.mem_of_mem_drop hk)
 up:=h.up.sublist (List.drop_sublist _ _)
 ne:=fun e k hk => h.ne e k (List.mem_of_mem_drop hk)
 lf:=fun e => by
  obtain ⟨h1,h2,h3⟩:=h.lf e
  refine ⟨by simp only [dropN,List.length_drop]; omega,by show n.kd.drop m = []; rw [h2]; simp,fun v hv => h3 v (List.mem_of_mem_drop hv)⟩
 inn:=fun e => by
  obtain ⟨h1,h2,h3⟩:=h.inn e
  refine ⟨by simp only [dropN,List.length_drop]; omega,by show n.vs.drop m = []; rw [h2]; simp,fun v hv => h3 v (List.mem_of_mem_drop hv)⟩
theorem Bm.small {n : Nd} (h : Bm n) {i : Nat} (hi : i < n.ks.length) : szA n i <= 50:=by
 have h1:=h.ks _ (zan9 (d:=eS) hi)
 unfold szA
 cases e : n.lf with
 | true =>
  have h2:=(h.lf e).2.2 _ (zan9 (d:=eS) (i:=i) (by rw [(h.lf e).1]; exact hi))
  simp only [if_true]
  show 1 + (n.ks.getD i eS).size + (1 + (n.vs.getD i eS).size) <= 50
  omega
 | false =>
  simp only [Bool.false_eq_true,if_false]
  show 1 + (n.ks.getD i eS).size + _ <= 50
  split <;> omega
theorem mid_ex (n : Nd) (h : 2 <= n.ks.length) : ∃ m,MidR n m:=by
 have key : ∀ d,∀ m,1 <= m -> m + d + 1 = n.ks.length -> (∀ k,1 <= k -> k < m -> W (szN n k) < hlfN n) -> ∃ m,MidR n m:=by
  intro d
  induction d with
  | zero => intro m h1 h2 h3; exact ⟨m,h1,by omega,h3,.inl (by omega)⟩
  | succ d ih =>
   intro m h1 h2 h3
   by_cases c : hlfN n <= W (szN n m)
   ·exact ⟨m,h1,by omega,h3,.inr c⟩
   ·refine ih (m + 1) (by omega) (by omega) (fun k k1 k2 => ?_)
    by_cases e : k = m
    ·subst e; omega
    ·exact h3 k k1 (by omega)
 exact key (n.ks.length - 2) 1 (by omega) (by omega) (fun k h1 h2 => by omega)
theorem znk9 {n : Nd} (h : Bm n) (h1 : 1 <= n.ks.length) (h2 : sz n <= 292) :
  (piecesF n = [n] /\ sz n <= 240) ∨ (240 < sz n /\ ∃ m,piecesF n = [takeN n m,dropN n m] /\ 2 <= m /\ m + 2 <= n.ks.length /\ sz (takeN n m) <= 240 /\ sz (dropN n m) <= 240):=by
 have hW : W (szN n n.ks.length) = (sz n : Int):=zax9 (by unfold sz at h2; omega)
 by_cases c : sz n <= 240
 ·left
  refine ⟨?_,c⟩
  unfold piecesF
  rw [if_neg (by omega),hW,if_pos (by omega)]
 right
 have hs:=h.szle
 have hb : ∀ k,k <= n.ks.length -> szN n k <= 1 + 50 * k:=by
  intro k
  induction k with
  | zero => intro _; simp [szN]
  | succ k ih => intro hk; have:=ih (by omega); have:=h.small (i:=k) (by omega); simp only [szN]; omega
 obtain ⟨m,hm⟩:=mid_ex n (by omega)
 have hh:=zkc9 hm (fun i hi => h.small hi) (by unfold sz at c; omega) h2
 have hl:=hm.lt
 have h1m:=hm.one
 have lt : (takeN n m).ks.length = m:=zkp9 n (by omega)
 have ld : (dropN n m).ks.length = n.ks.length - m:=by simp only [dropN,List.length_drop]
 have hd:=zgm9 n m (n.ks.length - m)
 rw [Nat.add_sub_of_le (by omega)] at hd
 have hWk : ∀ k,k <= n.ks.length -> W (szN n k) = (szN n k : Int):=fun k hk => zax9 (by have:=zlv9 n hk; unfold sz at h2; omega)
 have hhf : hlfN n = ((sz n / 2 : Nat) : Int):=by
  unfold hlfN
  rw [hW]
  rcases tdiv2 (sz n : Int) with ⟨_,e⟩ | ⟨c,_⟩
  ·rw [e]; omega
  ·omega
 have hdl : szN (dropN n m) (n.ks.length - m) <= 1 + 50 * (n.ks.length - m):=by
  have hb2 : ∀ k,k <= n.ks.length - m -> szN (dropN n m) k <= 1 + 50 * k:=by
   intro k
   induction k with
   | zero => intro _; simp [szN]
   | succ k ih => intro hk; have:=ih (by omega); have:=(h.drop m).small (i:=k) (by omega); simp only [szN]; omega
  exact hb2 _ (zn6 _)
 have hbm:=hb m (by omega)
 have hst : szN n m = szN n (m - 1) + szA n (m - 1):=by
  obtain ⟨q,rfl⟩ : ∃ q,m = q + 1:=⟨m - 1,by omega⟩
  rfl
 have hsa:=h.small (i:=m - 1) (by omega)
 have hm2 : 2 <= m:=by
  rcases hm.yes with e | e
  ·unfold sz at c; have:=hb n.ks.length (zn6 _); omega
  ·rw [hhf,hWk _ (by omega)] at e; omega
 have hno:=hm.no (m - 1) (by omega) (by omega)
 rw [hhf,hWk _ (by omega)] at hno
 refine ⟨by omega,m,?_,hm2,?_,by unfold sz; rw [lt]; exact hh.1,by unfold sz; rw [ld]; exact hh.2⟩
 ·unfold piecesF
  rw [if_neg (by omega),hW,if_neg (by omega),if_neg (by omega),zou9 hm]
 ·unfold sz at c hno
  omega
abbrev E2:=ByteArray × ByteArray
def Fo (P : Int -> ByteArray -> Option ByteArray -> List E2 -> List Int -> Prop) : List ByteArray -> List Int -> Option ByteArray -> List E2 -> List Int -> Prop
 | [],[],_,L,B => L = [] /\ B = []
 | k :: ks,x :: xs,hi,L,B => ∃ L1 L2 B1 B2,P x k (nxt ks hi) L1 B1 /\ Fo P ks xs hi L2 B2 /\ L = L1 ++ L2 /\ B = B1 ++ B2
 | _,_,_,_,_ => False
def Nod (V : Int -> Int × Nd) (c : Nat) : Nat -> Nd -> ByteArray -> Option ByteArray -> List E2 -> List Int -> Prop
 | 0,n,lo,hi,L,B => n.lf = true /\ Rg lo hi n.ks /\ L = n.ks.zip n.vs /\ B = []
 | h + 1,n,lo,hi,L,B => n.lf = false /\ Rg lo hi n.ks /\ Fo (fun x k hi L B => ∃ m B1,V x = (0,m) /\ Bm m /\ c <= m.ks.length /\ sz m <= 240 /\ Nod V c h m k hi L B1 /\ B = x :: B1) n.ks n.kd hi L B
def Sub (V : Int -> Int × Nd) (c h : Nat) (x : Int) (k : ByteArray) (hi : Option ByteArray) (L : List E2) (B : List Int) : Prop:=
 ∃ m B1,V x = (0,m) /\ Bm m /\ c <= m.ks.length /\ sz m <= 240 /\ Nod V c h m k hi L B1 /\ B = x :: B1
section
variable {P P' : Int -> ByteArray -> Option ByteArray -> List E2 -> List Int -> Prop} {V V' : Int -> Int × Nd} {c h : Nat}
theorem zkx9 (K K2 : List ByteArray) (hi : Option ByteArray) : nxt (K ++ K2) hi = nxt K (nxt K2 hi):=by cases K <;> rfl
theorem nxt_le {hi hj : Option ByteArray} (h : Hle hi hj) (ks : List ByteArray) : Hle (nxt ks hi) (nxt ks hj):=by
 cases ks with
 | nil => exact h
 | cons => exact Hle.refl _
theorem Fo.len : ∀ {ks xs hi L B},Fo P ks xs hi L B -> xs.length = ks.length
 | [],[],_,_,_,_ => rfl
 | _ :: _,_ :: _,_,_,_,⟨_,_,_,_,_,h,_,_⟩ => by have:=Fo.len h; simp [this]
 | [],_ :: _,_,_,_,h => h.elim
 | _ :: _,[],_,_,_,h => h.elim
theorem Fo.app {K2 : List ByteArray} {D2 : List Int} {hi : Option ByteArray} : ∀ {K1 D1 L B},K1.length = D1.length -> (Fo P (K1 ++ K2) (D1 ++ D2) hi L B ↔ ∃ L1 L2 B1 B2,Fo P K1 D1 (nxt K2 hi) L1 B1 /\ Fo P K2 D2 hi L2 B2 /\ L = L1 ++ L2 /\ B = B1 ++ B2)
 | [],[],L,B,_ => ⟨fun h => ⟨[],L,[],B,⟨rfl,rfl⟩,h,rfl,rfl⟩,by rintro ⟨L1,L2,B1,B2,⟨rfl,rfl⟩,h,rfl,rfl⟩; exact h⟩
 | k :: K1,x :: D1,L,B,e => by
  have e' : K1.length = D1.length:=by simpa using e
  constructor
  ·rintro ⟨L1,L2,B1,B2,h1,h2,rfl,rfl⟩
   obtain ⟨L3,L4,B3,B4,h3,h4,rfl,rfl⟩:=(Fo.app e').1 h2
   exact ⟨L1 ++ L3,L4,B1 ++ B3,B4,⟨L1,L3,B1,B3,by have h1' : P x k (nxt (K1 ++ K2) hi) L1 B1:=h1; rw [zkx9] at h1'; exact h1',h3,rfl,rfl⟩,h4,by simp,by simp⟩
  ·rintro ⟨L1,L2,B1,B2,⟨L3,L4,B3,B4,h1,h2,rfl,rfl⟩,h4,rfl,rfl⟩
   exact ⟨L3,L4 ++ L2,B3,B4 ++ B2,by show P x k (nxt (K1 ++ K2) hi) L3 B3; rw [zkx9]; exact h1,(Fo.app e').2 ⟨L4,L2,B4,B2,h2,h4,rfl,rfl⟩,by simp,by simp⟩
 | [],_ :: _,_,_,e => by simp at e
 | _ :: _,[],_,_,e => by simp at e
theorem Fo.mono {hi hj : Option ByteArray} (hle : Hle hi hj) (hP : ∀ x k hi hj L B,Hle hi hj -> P x k hi L B -> P x k hj L B) : ∀ {ks xs L B},Fo P ks xs hi L B -> Fo P ks xs hj L B
 | [],[],_,_,h => h
 | _ :: ks,_ :: _,_,_,⟨L1,L2,B1,B2,h1,h2,e1,e2⟩ => ⟨L1,L2,B1,B2,hP _ _ _ _ _ _ (nxt_le hle ks) h1,Fo.mono hle hP h2,e1,e2⟩
 | [],_ :: _,_,_,h => h.elim
 | _ :: _,[],_,_,h => h.elim
theorem Fo.congr : ∀ {ks xs hi L B},Fo P ks xs hi L B -> (∀ x k hi L B1,P x k hi L B1 -> (∀ y ∈ B1,y ∈ B) -> P' x k hi L B1) -> Fo P' ks xs hi L B
 | [],[],_,_,_,h,_ => h
 | _ :: ks,_ :: _,_,_,_,⟨L1,L2,B1,B2,h1,h2,e1,e2⟩,hP => ⟨L1,L2,B1,B2,hP _ _ _ _ _ h1 (fun y hy => by rw [e2]; exact List.mem_append_left _ hy),Fo.congr h2 (fun x k hi L B3 p q => hP x k hi L B3 p (fun y hy => by rw [e2]; exact List.mem_append_right _ (q y hy))),e1,e2⟩
 | [],_ :: _,_,_,_,h,_ => h.elim
 | _ :: _,[],_,_,_,h,_ => h.elim
theorem Nod.mono : ∀ {h n lo lo' hi hi' L B},Nod V c h n lo hi L B -> Ke lo' lo -> Hle hi hi' -> Nod V c h n lo' hi' L B
 | 0,_,_,_,_,_,_,_,⟨h1,h2,h3,h4⟩,a,b => ⟨h1,h2.mono a b,h3,h4⟩
 | h + 1,_,_,_,_,_,_,_,⟨h1,h2,h3⟩,a,b => ⟨h1,h2.mono a b,h3.mono b (by
   rintro x k hi hj L B hh ⟨m,B1,a1,a2,a3,a4,a5,a6⟩
   exact ⟨m,B1,a1,a2,a3,a4,Nod.mono a5 (Ke.refl _) hh,a6⟩)⟩
theorem Sub.mono {x : Int} {k : ByteArray} {hi hj : Option ByteArray} {L : List E2} {B : List Int} (hh : Hle hi hj) : Sub V c h x k hi L B -> Sub V c h x k hj L B:=by
 rintro ⟨m,B1,a1,a2,a3,a4,a5,a6⟩
 exact ⟨m,B1,a1,a2,a3,a4,Nod.mono a5 (Ke.refl _) hh,a6⟩
theorem Nod.congr : ∀ {h n lo hi L B},Nod V c h n lo hi L B -> (∀ y ∈ B,V' y = V y) -> Nod V' c h n lo hi L B
 | 0,_,_,_,_,_,h,_ => h
 | h + 1,_,_,_,_,_,⟨h1,h2,h3⟩,e => ⟨h1,h2,h3.congr (by
   rintro x k hi L B1 ⟨m,B2,a1,a2,a3,a4,a5,a6⟩ q
   exact ⟨m,B2,by rw [e x (q x (by rw [a6]; exact List.mem_cons_self))]; exact a1,a2,a3,a4,Nod.congr a5 (fun y hy => e y (q y (by rw [a6]; exact List.mem_cons_of_mem _ hy))),a6⟩)⟩
theorem Sub.congr {x : Int} {k : ByteArray} {hi : Option ByteArray} {L : List E2} {B : List Int} : Sub V c h x k hi L B -> (∀ y ∈ B,V' y = V y) -> Sub V' c h x k hi L B:=by
 rintro ⟨m,B2,a1,a2,a3,a4,a5,rfl⟩ e
 exact ⟨m,B2,by rw [e x List.mem_cons_self]; exact a1,a2,a3,a4,Nod.congr a5 (fun y hy => e y (List.mem_cons_of_mem _ hy)),rfl⟩
abbrev Up (L : List E2) : Prop:=L.Pairwise fun a b => Kl a.1 b.1
theorem Fo.facts (hP : ∀ x k hi L B,P x k hi L B -> (∀ e ∈ L,Ke k e.1 /\ Lh e.1 hi) /\ Up L) : ∀ {ks xs hi L B},ks.Pairwise Kl -> (∀ k ∈ ks,Lh k hi) -> Fo P ks xs hi L B -> (∀ e ∈ L,(∃ k ks',ks = k :: ks' /\ Ke k e.1) /\ Lh e.1 hi) /\ Up L
 | [],[],_,_,_,_,_,⟨rfl,rfl⟩ => ⟨fun e he => (by cases he),List.Pairwise.nil⟩
 | k :: ks,x :: xs,hi,_,_,h1,h2,⟨L1,L2,B1,B2,p,q,rfl,rfl⟩ => by
  obtain ⟨p1,p2⟩:=hP _ _ _ _ _ p
  obtain ⟨h3,h4⟩:=List.pairwise_cons.1 h1
  obtain ⟨q1,q2⟩:=Fo.facts hP h4 (fun k' hk => h2 k' (List.mem_cons_of_mem _ hk)) q
  have hn : Hle (nxt ks hi) hi:=by
   cases ks with
   | nil => exact Hle.refl _
   | cons k' ks => intro b hb; exact ⟨k',rfl,(h2 k' (by simp) b hb).le⟩
  refine ⟨fun e he => ?_,List.pairwise_append.2 ⟨p2,q2,fun a ha b hb => ?_⟩⟩
  ·rcases List.mem_append.1 he with he | he
   ·exact ⟨⟨k,ks,rfl,(p1 e he).1⟩,(p1 e he).2.mono hn⟩
   ·obtain ⟨⟨k',ks',e1,e2⟩,e3⟩:=q1 e he
    exact ⟨⟨k,ks,rfl,((h3 k' (by rw [e1]; simp)).trans_le e2).le⟩,e3⟩
  ·obtain ⟨⟨k',ks',e1,e2⟩,e3⟩:=q1 b hb
   exact ((p1 a ha).2 k' (by rw [e1]; rfl)).trans_le e2
 | [],_ :: _,_,_,_,_,_,h => h.elim
 | _ :: _,[],_,_,_,_,_,h => h.elim
theorem zip_up {ks vs : List ByteArray} : ks.Pairwise Kl -> Up (ks.zip vs):=by
 intro h
 induction ks generalizing vs with
 | nil => simp
 | cons k ks ih =>
  obtain ⟨h1,h2⟩:=List.pairwise_cons.1 h
  cases vs with
  | nil => simp
  | cons v vs =>
   rw [List.zip_cons_cons]
   exact List.pairwise_cons.2 ⟨fun e he => h1 _ (List.of_mem_zip he).1,ih h2⟩
theorem Nod.facts : ∀ {h n lo hi L B},Nod V c h n lo hi L B -> Bm n -> (∀ e ∈ L,Ke lo e.1 /\ Lh e.1 hi) /\ Up L
 | 0,_,_,_,_,_,⟨h1,h2,rfl,h4⟩,hb => ⟨fun e he => h2 _ (List.of_mem_zip he).1,zip_up hb.up⟩
 | h + 1,n,lo,hi,_,_,⟨h1,h2,h3⟩,hb => by
  obtain ⟨q1,q2⟩:=h3.facts (by rintro x k hi L B ⟨m,B1,a1,a2,a3,a4,a5,a6⟩; exact Nod.facts a5 a2) hb.up (fun k hk => (h2 k hk).2)
  refine ⟨fun e he => ?_,q2⟩
  obtain ⟨⟨k,ks,e1,e2⟩,e3⟩:=q1 e he
  exact ⟨(h2 k (by rw [e1]; simp)).1.trans e2,e3⟩
theorem Sub.facts {x : Int} {k : ByteArray} {hi : Option ByteArray} {L : List E2} {B : List Int} : Sub V c h x k hi L B -> (∀ e ∈ L,Ke k e.1 /\ Lh e.1 hi) /\ Up L:=by
 rintro ⟨m,B1,a1,a2,a3,a4,a5,a6⟩
 exact a5.facts a2
theorem Fo.cnt {m : Nat} (hP : ∀ x k hi L B,P x k hi L B -> m <= L.length) : ∀ {ks xs hi L B},Fo P ks xs hi L B -> m * ks.length <= L.length
 | [],[],_,_,_,_ => by simp
 | _ :: ks,_ :: _,_,_,_,⟨L1,L2,B1,B2,p,q,rfl,rfl⟩ => by
  have:=hP _ _ _ _ _ p
  have:=Fo.cnt hP q
  rw [List.length_cons,Nat.mul_succ,List.length_append]; omega
 | [],_ :: _,_,_,_,h => h.elim
 | _ :: _,[],_,_,_,h => h.elim
theorem Nod.cnt : ∀ {h n lo hi L B},Nod V c h n lo hi L B -> Bm n -> c ^ h * n.ks.length <= L.length
 | 0,n,_,_,_,_,⟨h1,h2,rfl,h4⟩,hb => by simp [(hb.lf h1).1]
 | h + 1,n,lo,hi,_,_,⟨h1,h2,h3⟩,hb => by
  refine h3.cnt (m:=c ^ (h + 1)) ?_
  rintro x k hi L B ⟨m,B1,a1,a2,a3,a4,a5,a6⟩
  have:=Nod.cnt a5 a2
  rw [Nat.pow_succ]
  exact zn2 (Nat.mul_le_mul_left _ a3) this
theorem Fo.blk (hP : ∀ x k hi L B,P x k hi L B -> B.length + 1 <= L.length) : ∀ {ks xs hi L B},Fo P ks xs hi L B -> B.length + ks.length <= L.length
 | [],[],_,_,_,⟨rfl,rfl⟩ => by simp
 | _ :: ks,_ :: _,_,_,_,⟨L1,L2,B1,B2,p,q,rfl,rfl⟩ => by
  have:=hP _ _ _ _ _ p
  have:=Fo.blk hP q
  rw [List.length_cons,List.length_append,List.length_append]; omega
 | [],_ :: _,_,_,_,h => h.elim
 | _ :: _,[],_,_,_,h => h.elim
theorem Nod.blk (hc : 2 <= c) : ∀ {h n lo hi L B},Nod V c h n lo hi L B -> Bm n -> B.length + n.ks.length <= L.length
 | 0,n,_,_,_,_,⟨h1,h2,rfl,rfl⟩,hb => by simp [(hb.lf h1).1]
 | h + 1,n,lo,hi,_,_,⟨h1,h2,h3⟩,hb => by
  refine h3.blk ?_
  rintro x k hi L B ⟨m,B1,a1,a2,a3,a4,a5,rfl⟩
  have:=Nod.blk hc a5 a2
  rw [List.length_cons]; omega
theorem zsx9 {n : Nd} {k : ByteArray} {ks : List ByteArray} (h : n.ks = k :: ks) : kA n 0 = k:=by unfold kA; rw [h]; rfl
theorem Nod.split {n : Nd} {lo : ByteArray} {hi : Option ByteArray} {L : List E2} {B : List Int} {m : Nat} (H : Nod V c h n lo hi L B) (hb : Bm n) (h1 : 1 <= m) (h2 : m < n.ks.length) :
  ∃ L1 L2 B1 B2,Nod V c h (takeN n m) lo (some (kA (dropN n m) 0)) L1 B1 /\ Nod V c h (dropN n m) (kA (dropN n m) 0) hi L2 B2 /\ L = L1 ++ L2 /\ B = B1 ++ B2:=by
 obtain ⟨k,K2,hk⟩ : ∃ k K2,n.ks.drop m = k :: K2:=by
  cases e : n.ks.drop m with
  | nil => have:=congrArg List.length e; simp at this; omega
  | cons k K2 => exact ⟨k,K2,rfl⟩
 have e0 : kA (dropN n m) 0 = k:=zsx9 hk
 have hks : n.ks = n.ks.take m ++ k :: K2:=by rw [<- hk,List.take_append_drop]
 have hup:=hb.up
 rw [hks] at hup
 obtain ⟨_,u2,u3⟩:=List.pairwise_append.1 hup
 have r1 : Rg lo hi n.ks -> Rg lo (some k) (n.ks.take m):=fun r q hq => ⟨(r q (List.mem_of_mem_take hq)).1,fun b hb => by cases hb; exact u3 q hq k (by simp)⟩
 have r2 : Rg lo hi n.ks -> Rg k hi (n.ks.drop m):=fun r q hq => ⟨by
  rw [hk] at hq
  rcases List.mem_cons.1 hq with e | e
  ·rw [e]; exact Ke.refl _
  ·exact ((List.pairwise_cons.1 u2).1 q e).le,(r q (List.mem_of_mem_drop hq)).2⟩
 rw [e0]
 cases h with
 | zero =>
  obtain ⟨a1,a2,rfl,rfl⟩:=H
  obtain ⟨v1,v2,v3⟩:=hb.lf a1
  refine ⟨(n.ks.take m).zip (n.vs.take m),(n.ks.drop m).zip (n.vs.drop m),[],[],⟨a1,r1 a2,rfl,rfl⟩,⟨a1,r2 a2,rfl,rfl⟩,?_,rfl⟩
  rw [<- List.zip_append (by simp [v1]),List.take_append_drop,List.take_append_drop]
 | succ h =>
  obtain ⟨a1,a2,a3⟩:=H
  obtain ⟨v1,v2,v3⟩:=hb.inn a1
  rw [show n.kd = n.kd.take m ++ n.kd.drop m by rw [List.take_append_drop],hks] at a3
  obtain ⟨L1,L2,B1,B2,f1,f2,e1,e2⟩:=(Fo.app (by simp [v1])).1 a3
  exact ⟨L1,L2,B1,B2,⟨a1,r1 a2,f1⟩,⟨a1,r2 a2,by show Fo _ (n.ks.drop m) (n.kd.drop m) hi L2 B2; rw [hk]; exact f2⟩,e1,e2⟩
theorem Nod.join {o p : Nd} {lo k : ByteArray} {hi : Option ByteArray} {L1 L2 : List E2} {B1 B2 : List Int} (H1 : Nod V c h o lo (some k) L1 B1) (H2 : Nod V c h p k hi L2 B2) (b1 : Bm o) (b2 : Bm p) (hp : 1 <= p.ks.length) (hlo : Ke lo k) :
  Nod V c h (joinN o p) lo hi (L1 ++ L2) (B1 ++ B2) /\ Bm (joinN o p) /\ sz (joinN o p) + 1 = sz o + sz p:=by
 obtain ⟨q,K2,hq⟩ : ∃ q K2,p.ks = q :: K2:=by
  cases e : p.ks with
  | nil => rw [e] at hp; simp at hp
  | cons q K2 => exact ⟨q,K2,rfl⟩
 have hlf : o.lf = p.lf:=by
  cases h with
  | zero => rw [H1.1,H2.1]
  | succ h => rw [H1.1,H2.1]
 have r1 : Rg lo (some k) o.ks:=by
  cases h with
  | zero => exact H1.2.1
  | succ h => exact H1.2.1
 have r2 : Rg k hi p.ks:=by
  cases h with
  | zero => exact H2.2.1
  | succ h => exact H2.2.1
 have hkq : Ke k q:=(r2 q (by rw [hq]; simp)).1
 have r3 : Rg lo hi (o.ks ++ p.ks):=fun x hx => by
  rcases List.mem_append.1 hx with e | e
  ·refine ⟨(r1 x e).1,(r2 q (by rw [hq]; simp)).2.le (((r1 x e).2 k rfl).trans_le hkq).le⟩
  ·exact ⟨hlo.trans (r2 x e).1,(r2 x e).2⟩
 have hbm : Bm (joinN o p):={
  ks:=fun x hx => (List.mem_append.1 hx).elim (b1.ks x) (b2.ks x)
  up:=List.pairwise_append.2 ⟨b1.up,b2.up,fun x hx y hy => ((r1 x hx).2 k rfl).trans_le (r2 y hy).1⟩
  ne:=fun e x hx => (List.mem_append.1 hx).elim (b1.ne e x) (b2.ne (hlf ▸ e) x)
  lf:=fun e => by
   obtain ⟨v1,v2,v3⟩:=b1.lf e
   obtain ⟨u1,u2,u3⟩:=b2.lf (hlf ▸ e)
   exact ⟨by simp [joinN,v1,u1],by simp [joinN,v2,u2],fun x hx => (List.mem_append.1 hx).elim (v3 x) (u3 x)⟩
  inn:=fun e => by
   obtain ⟨v1,v2,v3⟩:=b1.inn e
   obtain ⟨u1,u2,u3⟩:=b2.inn (hlf ▸ e)
   exact ⟨by simp [joinN,v1,u1],by simp [joinN,v2,u2],fun x hx => (List.mem_append.1 hx).elim (v3 x) (u3 x)⟩ }
 refine ⟨?_,hbm,?_⟩
 ·cases h with
  | zero =>
   obtain ⟨a1,a2,rfl,rfl⟩:=H1
   obtain ⟨c1,c2,rfl,rfl⟩:=H2
   exact ⟨a1,r3,(List.zip_append (by rw [(b1.lf a1).1])).symm,rfl⟩
  | succ h =>
   obtain ⟨a1,a2,a3⟩:=H1
   obtain ⟨c1,c2,c3⟩:=H2
   refine ⟨a1,r3,(Fo.app (by rw [(b1.inn a1).1])).2 ⟨L1,L2,B1,B2,?_,c3,rfl,rfl⟩⟩
   rw [hq]
   exact Fo.mono (P:=Sub V c h) (hi:=some k) (hj:=some q) (fun b hb => by cases hb; exact ⟨k,rfl,hkq⟩) (fun x k hi hj L B hh s => Sub.mono hh s) a3
 ·cases e : o.lf with
  | true =>
   rw [zbl9 (n:=joinN o p) e (hbm.lf e).1,zbl9 e (b1.lf e).1,zbl9 (hlf ▸ e) (b2.lf (hlf ▸ e)).1]
   simp only [joinN,zah9,List.length_append]; omega
  | false =>
   rw [zbd9 (n:=joinN o p) e (hbm.inn e).1,zbd9 e (b1.inn e).1,zbd9 (hlf ▸ e) (b2.inn (hlf ▸ e)).1]
   simp only [joinN,zah9,List.length_append]; omega
theorem Nod.nil {n : Nd} {lo : ByteArray} {hi : Option ByteArray} {L : List E2} {B : List Int} (H : Nod V c h n lo hi L B) (h0 : n.ks = []) : L = [] /\ B = []:=by
 cases h with
 | zero => obtain ⟨_,_,rfl,rfl⟩:=H; rw [h0]; exact ⟨rfl,rfl⟩
 | succ h =>
  obtain ⟨_,_,a⟩:=H
  rw [h0] at a
  cases e : n.kd with
  | nil => rw [e] at a; exact a
  | cons => rw [e] at a; exact a.elim
inductive Pts (V : Int -> Int × Nd) (c h : Nat) : List Nd -> ByteArray -> Option ByteArray -> List E2 -> List Int -> Prop
 | zero (lo : ByteArray) (hi : Option ByteArray) : Pts V c h [] lo hi [] []
 | one {p : Nd} {lo : ByteArray} {hi : Option ByteArray} {L : List E2} {B : List Int} : Bm p -> 1 <= p.ks.length -> sz p <= 240 -> Nod V c h p lo hi L B -> Pts V c h [p] lo hi L B
 | two {p q : Nd} {lo : ByteArray} {hi : Option ByteArray} {L1 L2 : List E2} {B1 B2 : List Int} : Bm p -> 2 <= p.ks.length -> sz p <= 240 -> Bm q -> 2 <= q.ks.length -> sz q <= 240 -> Nod V c h p lo (some (kA q 0)) L1 B1 -> Nod V c h q (kA q 0) hi L2 B2 -> Pts V c h [p,q] lo hi (L1 ++ L2) (B1 ++ B2)
theorem zdc9 {n : Nd} {lo : ByteArray} {hi : Option ByteArray} {L : List E2} {B : List Int} (H : Nod V c h n lo hi L B) (hb : Bm n) (hs : sz n <= 292) :
  Pts V c h (piecesF n) lo hi L B /\ (n.ks = [] /\ piecesF n = [] ∨ piecesF n = [n] /\ 1 <= n.ks.length /\ sz n <= 240 ∨ (piecesF n).length = 2 /\ 240 < sz n):=by
 by_cases h0 : n.ks = []
 ·obtain ⟨rfl,rfl⟩:=H.nil h0
  have : piecesF n = []:=by unfold piecesF; rw [if_pos (by rw [h0]; rfl)]
  rw [this]
  exact ⟨.zero _ _,.inl ⟨h0,rfl⟩⟩
 have h1 : 1 <= n.ks.length:=by
  cases e : n.ks with
  | nil => exact absurd e h0
  | cons => simp
 rcases znk9 hb h1 hs with ⟨e,h2⟩ | ⟨h2,m,e,m1,m2,s1,s2⟩
 ·rw [e]; exact ⟨.one hb h1 h2 H,.inr (.inl ⟨rfl,h1,h2⟩)⟩
 ·obtain ⟨L1,L2,B1,B2,n1,n2,rfl,rfl⟩:=H.split hb (m:=m) (by omega) (by omega)
  rw [e]
  exact ⟨.two (hb.take m) (by rw [zkp9 n (by omega)]; omega) s1 (hb.drop m) (by simp only [dropN,List.length_drop]; omega) s2 n1 n2,.inr (.inr ⟨rfl,h2⟩)⟩
end
structure Ev (a a' : AS) (T : List Int) : Prop where
 v : ∀ y,y ∉ T -> a'.V y = a.V y
 f : ∀ y,y ∉ T -> a'.F y = a.F y
 ft : ∀ y ∈ T,a'.F y = true
 q : a'.Q = a.Q
 nd : T.Nodup
 fr : ∀ y ∈ T,Ah.stv a.A y = 0
 tk : ∀ y ∈ T,Ah.stv a'.A y = 1
 st : ∀ y,y ∉ T -> Ah.stv a'.A y = Ah.stv a.A y
 ct : a'.A.L.count 0 + T.length = a.A.L.count 0
 lo : a'.A.lo = a.A.lo
 ln : a'.A.L.length = a.A.L.length
 sa : a.A.as = 0 -> a'.A.as = 0
theorem Ev.refl (a : AS) : Ev a a []:=⟨fun _ _ => rfl,fun _ _ => rfl,fun _ h => (by cases h),rfl,List.nodup_nil,fun _ h => (by cases h),fun _ h => (by cases h),fun _ _ => rfl,by simp,rfl,rfl,id⟩
theorem Ev.trans {a b c : AS} {T S : List Int} (h : Ev a b T) (g : Ev b c S) : Ev a c (T ++ S):=by
 have dj : ∀ y ∈ S,y ∉ T:=fun y hy ht => by have:=g.fr y hy; have:=h.tk y ht; omega
 refine ⟨fun y hy => ?_,fun y hy => ?_,fun y hy => ?_,g.q.trans h.q,List.nodup_append.2 ⟨h.nd,g.nd,fun x hx y hy e => dj y hy (e ▸ hx)⟩,fun y hy => ?_,fun y hy => ?_,fun y hy => ?_,?_,g.lo.trans h.lo,g.ln.trans h.ln,fun e => g.sa (h.sa e)⟩
 ·rw [List.mem_append,not_or] at hy; rw [g.v y hy.2,h.v y hy.1]
 ·rw [List.mem_append,not_or] at hy; rw [g.f y hy.2,h.f y hy.1]
 ·by_cases e : y ∈ S
  ·exact g.ft y e
  ·rw [g.f y e]; exact h.ft y ((List.mem_append.1 hy).resolve_right e)
 ·by_cases e : y ∈ T
  ·exact h.fr y e
  ·rw [<- h.st y e]; exact g.fr y ((List.mem_append.1 hy).resolve_left e)
 ·by_cases e : y ∈ S
  ·exact g.tk y e
  ·rw [g.st y e]; exact h.tk y ((List.mem_append.1 hy).resolve_right e)
 ·rw [List.mem_append,not_or] at hy; rw [g.st y hy.2,h.st y hy.1]
 ·have:=h.ct; have:=g.ct; rw [List.length_append]; omega
def Ao (a : AS) : Prop:=a.A.lo + a.A.L.length <= 65536
theorem Ev.ao {a b : AS} {T : List Int} (h : Ev a b T) (o : Ao a) : Ao b:=by unfold Ao; rw [h.lo,h.ln]; exact o
theorem zew9 {s : Ah.St} {x : Int} (h : Ah.stv s x ≠ -1) : (s.lo : Int) <= x /\ x < s.lo + s.L.length:=by
 unfold Ah.stv at h
 split at h
 ·assumption
 ·exact absurd rfl h
theorem Ev.rng {a b : AS} {T : List Int} (h : Ev a b T) (o : Ao a) {y : Int} (hy : y ∈ T) : 0 <= y /\ y <= 65535:=by
 have:=zew9 (s:=a.A) (x:=y) (by rw [h.fr y hy]; decide)
 unfold Ao at o; omega
theorem zdm9 (a : AS) (ch : CH) {n : Nd} (hm : mayN n = true) :
  ((writeF a ch n).e = 10 /\ a.A.L.count 0 = 0 /\ (writeF a ch n).a = a /\ (writeF a ch n).c = ch) ∨
  ((writeF a ch n).e = 0 /\ Ev a (writeF a ch n).a [(writeF a ch n).x] /\ (writeF a ch n).c = { ch with tk:=ch.tk ++ [(writeF a ch n).x] } /\ (writeF a ch n).a.V (writeF a ch n).x = (0,n)):=by
 unfold writeF
 rw [if_pos hm]
 by_cases hc : a.A.L.count 0 = 0
 ·left
  have he : Ah.take a.A = (0,false,a.A):=by unfold Ah.take; rw [if_pos hc]
  rw [he]
  exact ⟨rfl,hc,rfl,rfl⟩
 ·right
  have he : Ah.take a.A = (((a.A.lo + a.A.L.idxOf 0 : Nat) : Int),true,⟨a.A.lo,a.A.L.set (a.A.L.idxOf 0) 1,a.A.as - 1⟩):=by unfold Ah.take; rw [if_neg hc]
  obtain ⟨f1,f2,f3⟩:=Ah.first0 hc
  have hx : Ah.stv a.A ((a.A.lo + a.A.L.idxOf 0 : Nat) : Int) = 0:=by
   unfold Ah.stv
   rw [if_pos ⟨by omega,by omega⟩,show (((a.A.lo + a.A.L.idxOf 0 : Nat) : Int) - a.A.lo).toNat = a.A.L.idxOf 0 by omega]
   exact f2
  have hp : ∀ m,Ah.stv ⟨a.A.lo,a.A.L.set (a.A.L.idxOf 0) 1,a.A.as - 1⟩ m = if m = ((a.A.lo + a.A.L.idxOf 0 : Nat) : Int) then 1 else Ah.stv a.A m:=fun m => Ah.stv_put (s:=⟨a.A.lo,a.A.L,a.A.as - 1⟩) f1 1 m
  have hct:=Ah.cnt_set a.A.L (a.A.L.idxOf 0) f1 0 1
  rw [if_pos f2] at hct
  simp only [AS.wr,he,if_true]
  refine ⟨by trivial,⟨fun y hy => zcp9 _ _ (fun e => hy (by simp [e])),fun y hy => zcp9 _ _ (fun e => hy (by simp [e])),fun y hy => by rw [List.mem_singleton.1 hy]; exact zca9 _ _ _,rfl,by simp,fun y hy => by rw [List.mem_singleton.1 hy]; exact hx,fun y hy => by rw [hp,if_pos (List.mem_singleton.1 hy)],fun y hy => by rw [hp,if_neg (fun e => hy (by simp [e]))],?_,rfl,by simp,fun e => by simp [e]⟩,by trivial,zca9 _ _ _⟩
  simp at hct ⊢
  omega
section
variable {c h : Nat} {lo : ByteArray} {hi : Option ByteArray} {L : List E2} {B : List Int}
theorem zsy9 {a : AS} (ch : CH) {ps : List Nd} (hp : Pts a.V c h ps lo hi L B) (hc : ∀ p ∈ ps,c <= p.ks.length) (htk : ∀ y ∈ B,Ah.stv a.A y = 1) (k : ByteArray) (hk : k = lo) :
  ∃ T,Ev a (kidsF a ch ps).a T /\ (kidsF a ch ps).c = { ch with tk:=ch.tk ++ T } /\ T.length <= ps.length ∧
   ((kidsF a ch ps).e = 10 /\ (kidsF a ch ps).a.A.L.count 0 = 0 /\ T.length + 1 <= ps.length ∨
    (kidsF a ch ps).e = 0 /\ (kidsF a ch ps).xs = T /\ T.length = ps.length /\ ∃ B',(∀ y,B'.count y = B.count y + T.count y) /\ Fo (Sub (kidsF a ch ps).a.V c h) (keysF k ps) T hi L B'):=by
 subst hk
 have nt : ∀ {b : AS} {T : List Int},Ev a b T -> ∀ y ∈ B,y ∉ T:=fun g y hy e => by have:=g.fr y e; have:=htk y hy; omega
 cases hp with
 | zero => exact ⟨[],Ev.refl a,by simp [kidsF],by simp,.inr ⟨rfl,rfl,rfl,[],by simp,rfl,rfl⟩⟩
 | one b1 l1 s1 n1 =>
  rename_i p
  have hm:=b1.may l1 s1
  rcases zdm9 a ch hm with ⟨e,c0,ea,ec⟩ | ⟨e,ev,ec,ex⟩
  ·refine ⟨[],by simp only [kidsF,e,ne_eq]; rw [if_pos (by decide)]; simp only [ea]; exact Ev.refl a,?_,by simp,.inl ⟨?_,?_,by simp⟩⟩
   all_goals simp [kidsF,e,ea,ec,c0]
  ·have e0 : kidsF a ch [p] = ⟨0,[(writeF a ch p).x],(writeF a ch p).a,(writeF a ch p).c⟩:=by simp [kidsF,e]
   rw [e0]
   refine ⟨[(writeF a ch p).x],ev,ec,by simp,.inr ⟨rfl,rfl,rfl,(writeF a ch p).x :: B,fun y => by simp only [List.count_cons,List.count_nil]; omega,?_⟩⟩
   exact ⟨L,[],(writeF a ch p).x :: B,[],⟨p,B,ex,b1,hc p (by simp),s1,n1.congr (fun y hy => ev.v y (nt ev y hy)),rfl⟩,⟨rfl,rfl⟩,by simp,by simp⟩
 | two b1 l1 s1 b2 l2 s2 n1 n2 =>
  rename_i p q L1 L2 B1 B2
  have hm1:=b1.may (by omega) s1
  have hm2:=b2.may (by omega) s2
  rcases zdm9 a ch hm1 with ⟨e,c0,ea,ec⟩ | ⟨e,ev,ec,ex⟩
  ·refine ⟨[],by simp only [kidsF,e,ne_eq]; rw [if_pos (by decide)]; simp only [ea]; exact Ev.refl a,?_,by simp,.inl ⟨?_,?_,by simp⟩⟩
   all_goals simp [kidsF,e,ea,ec,c0]
  ·generalize hw : writeF a ch p = w1 at *
   rcases zdm9 w1.a w1.c hm2 with ⟨e2,c2,ea2,ec2⟩ | ⟨e2,ev2,ec2,ex2⟩
   ·have e0 : kidsF a ch [p,q] = ⟨10,[w1.x],w1.a,w1.c⟩:=by simp [kidsF,hw,e,e2,ea2,ec2]
    rw [e0]
    exact ⟨[w1.x],ev,ec,by simp,.inl ⟨rfl,c2,by simp⟩⟩
   ·generalize hw2 : writeF w1.a w1.c q = w2 at *
    have e0 : kidsF a ch [p,q] = ⟨0,[w1.x,w2.x],w2.a,w2.c⟩:=by simp [kidsF,hw,e,hw2,e2]
    have ev3:=ev.trans ev2
    rw [e0]
    have nt1 : w1.x ∉ [w2.x]:=fun h => by
     have h1:=ev2.fr w2.x (by simp)
     have h2:=ev.tk w1.x (by simp)
     rw [List.mem_singleton.1 h] at h2
     omega
    refine ⟨[w1.x] ++ [w2.x],ev3,by rw [ec2,ec]; simp,by simp,.inr ⟨rfl,rfl,rfl,(w1.x :: B1) ++ (w2.x :: B2),fun y => by simp only [List.count_append,List.count_cons,List.count_nil]; omega,?_⟩⟩
    refine ⟨L1,L2,w1.x :: B1,w2.x :: B2,⟨p,B1,?_,b1,hc p (by simp),s1,n1.congr (fun y hy => ev3.v y (nt ev3 y (List.mem_append_left _ hy))),rfl⟩,⟨L2,[],w2.x :: B2,[],⟨q,B2,ex2,b2,hc q (by simp),s2,n2.congr (fun y hy => ev3.v y (nt ev3 y (List.mem_append_right _ hy))),rfl⟩,⟨rfl,rfl⟩,by simp,by simp⟩,rfl,rfl⟩
    show w2.a.V w1.x = _
    rw [ev2.v _ nt1]; exact ex
end
theorem zeu9 {n : Nd} (hl : n.lf = false) (key : ByteArray) : ∀ K,(∀ j,plc n key K < j -> j < K -> Kl key (kA n j)) /\ (plc n key K = 0 ∨ Ke (kA n (plc n key K)) key) /\ (1 <= K -> plc n key K < K)
 | 0 => ⟨fun j _ h => by omega,.inl rfl,by omega⟩
 | K + 1 => by
  obtain ⟨h1,h2,h3⟩:=zeu9 hl key K
  unfold plc
  simp only [hl,Bool.false_eq_true,if_false]
  split
  ·rename_i e
   refine ⟨fun j a b => by omega,.inr ?_,fun _ => by omega⟩
   rw [Bool.or_eq_true] at e
   rcases e with e | e
   ·exact Kl.le e
   ·rw [eqsP.1 e]; exact Ke.refl _
  ·rename_i e
   rw [Bool.or_eq_true,not_or] at e
   refine ⟨fun j a b => ?_,h2,fun _ => ?_⟩
   ·by_cases c : j = K
    ·subst c
     rcases k_tri (kA n j) key with t | t | t
     ·exact absurd t e.1
     ·exact absurd (eqsP.2 t) e.2
     ·exact t
    ·exact h1 j a (by omega)
   ·by_cases c : 1 <= K
    ·have:=h3 c; omega
    ·have : K = 0:=by omega
     subst this; simp [plc]
theorem zla9 {n : Nd} (hl : n.lf = true) (key : ByteArray) : ∀ K,(∀ j,plc n key K <= j -> j < K -> Ke key (kA n j)) /\ (plc n key K = 0 ∨ Kl (kA n (plc n key K - 1)) key)
 | 0 => ⟨fun j _ h => by omega,.inl rfl⟩
 | K + 1 => by
  obtain ⟨h1,h2⟩:=zla9 hl key K
  unfold plc
  simp only [hl,if_true]
  split
  ·rename_i e
   exact ⟨fun j a b => by omega,.inr e⟩
  ·rename_i e
   refine ⟨fun j a b => ?_,h2⟩
   by_cases c : j = K
   ·subst c; show lts _ _ = false; simpa using e
   ·exact h1 j a (by omega)
theorem cut_at {α : Type} (d : α) (l : List α) {i : Nat} (h : i < l.length) : ∃ l1 l2,l = l1 ++ l.getD i d :: l2 /\ l1.length = i:=
 ⟨l.take i,l.drop (i + 1),by rw [zn3,List.getElem?_eq_getElem h]; simp [List.getElem_cons_drop],by simp; omega⟩
theorem zjy9 {α : Type} (d : α) (l1 l2 : List α) (x : α) : (l1 ++ x :: l2).getD l1.length d = x:=by simp [zn3]
structure LfOk (d : CD) (op : List E2 -> List E2) : Prop where
 loc : ∀ L1 L L2 : List E2,(∀ e ∈ L1,Kl e.1 d.key) -> (∀ e ∈ L2,Kl d.key e.1) -> op (L1 ++ (L ++ L2)) = L1 ++ (op L ++ L2)
 key : d.key.size <= 24
 lf : ∀ n lo hi,n.lf = true -> Bm n -> sz n <= 240 -> Rg lo hi n.ks -> Ke lo d.key -> Lh d.key hi →
  (d.lf n).lf = true /\ Bm (d.lf n) /\ sz (d.lf n) <= sz n + 50 /\ Rg lo hi (d.lf n).ks /\ (d.lf n).ks.zip (d.lf n).vs = op (n.ks.zip n.vs) /\ (d.jn = false -> n.ks.length <= (d.lf n).ks.length /\ 1 <= (d.lf n).ks.length) /\ (d.jn = true -> sz (d.lf n) <= sz n)
theorem Pts.ks {V : Int -> Int × Nd} {c h : Nat} {ps : List Nd} {lo : ByteArray} {hi : Option ByteArray} {L : List E2} {B : List Int} (hp : Pts V c h ps lo hi L B) : ps.length <= 2 /\ ∀ p ∈ ps,Bm p /\ 1 <= p.ks.length /\ sz p <= 240:=by
 cases hp with
 | zero => exact ⟨by simp,fun p hp => by cases hp⟩
 | one b1 l1 s1 n1 => exact ⟨by simp,fun p hp => by rw [List.mem_singleton.1 hp]; exact ⟨b1,l1,s1⟩⟩
 | two b1 l1 s1 b2 l2 s2 n1 n2 =>
  refine ⟨by simp,fun p hp => ?_⟩
  rcases List.mem_cons.1 hp with e | e
  ·rw [e]; exact ⟨b1,by omega,s1⟩
  ·rw [List.mem_singleton.1 e]; exact ⟨b2,by omega,s2⟩
theorem Nod.rg {V : Int -> Int × Nd} {c h : Nat} {n : Nd} {lo : ByteArray} {hi : Option ByteArray} {L : List E2} {B : List Int} (H : Nod V c h n lo hi L B) : Rg lo hi n.ks:=by
 cases h with
 | zero => exact H.2.1
 | succ h => exact H.2.1
theorem Pts.keys {V : Int -> Int × Nd} {c h : Nat} {ps : List Nd} {lo : ByteArray} {hi : Option ByteArray} {L : List E2} {B : List Int} (hp : Pts V c h ps lo hi L B) (hl : Lh lo hi) (h24 : lo.size <= 24) :
  (keysF lo ps).length = ps.length /\ (keysF lo ps).Pairwise Kl /\ (∀ k ∈ keysF lo ps,Ke lo k /\ Lh k hi /\ k.size <= 24) /\ kSum (keysF lo ps) <= lo.size + 24 * (ps.length - 1) /\ nxt (keysF lo ps) hi = (if ps = [] then hi else some lo):=by
 cases hp with
 | zero => exact ⟨rfl,List.Pairwise.nil,fun k hk => (by cases hk),by simp [keysF,kSum],rfl⟩
 | one b1 l1 s1 n1 =>
  refine ⟨rfl,by simp [keysF],fun k hk => ?_,by simp [keysF,kSum],rfl⟩
  rw [List.mem_singleton.1 hk]; exact ⟨Ke.refl _,hl,h24⟩
 | two b1 l1 s1 b2 l2 s2 n1 n2 =>
  rename_i p q L1 L2 B1 B2
  have hq : kA q 0 ∈ q.ks:=zan9 (by omega)
  have hp0 : kA p 0 ∈ p.ks:=zan9 (by omega)
  have hlt : Kl lo (kA q 0):=(n1.rg _ hp0).1.trans_lt ((n1.rg _ hp0).2 _ rfl)
  refine ⟨rfl,?_,fun k hk => ?_,?_,rfl⟩
  ·show [lo,kA q 0].Pairwise Kl
   refine List.pairwise_cons.2 ⟨fun k hk => ?_,by simp⟩
   rw [List.mem_singleton.1 hk]; exact hlt
  ·have hk' : k ∈ [lo,kA q 0]:=hk
   rcases List.mem_cons.1 hk' with e | e
   ·rw [e]; exact ⟨Ke.refl _,hl,h24⟩
   ·rw [List.mem_singleton.1 e]; exact ⟨hlt.le,(n2.rg _ hq).2,b2.ks _ hq⟩
  ·show kSum [lo,kA q 0] <= _
   have:=b2.ks _ hq
   simp only [zaf9,zgb9,List.length_cons,List.length_nil]; omega
section
variable {c h : Nat} {lo kx : ByteArray} {hi : Option ByteArray} {LA Lm LC : List E2} {BA Bp BC : List Int} {KA KW KC : List ByteArray} {DA DW DC : List Int}
theorem window {a : AS} (ch : CH) {n1 : Nd} {ps : List Nd} (hlf : n1.lf = false) (hb : Bm n1) (hks : n1.ks = KA ++ (kx :: KW ++ KC)) (hkd : n1.kd = DA ++ (DW ++ DC)) (l1 : KA.length = DA.length) (l2 : DW.length = KW.length + 1)
  (fA : Fo (Sub a.V c h) KA DA (some kx) LA BA) (fC : Fo (Sub a.V c h) KC DC hi LC BC) (hp : Pts a.V c h ps kx (nxt KC hi) Lm Bp) (hc : ∀ p ∈ ps,c <= p.ks.length) (hr : Rg lo hi n1.ks) (ho : Ao a)
  (htk : ∀ y ∈ BA ++ (Bp ++ BC),Ah.stv a.A y = 1) {i j : Nat} (hi' : i = KA.length) (hj : j = KA.length + KW.length + 1) :
  ∃ T,Ev a (replaceF a ch n1 i j ps).a T /\ (replaceF a ch n1 i j ps).c = { ch with tk:=ch.tk ++ T } /\ T.length <= ps.length ∧
   ((replaceF a ch n1 i j ps).e = 10 /\ (replaceF a ch n1 i j ps).a.A.L.count 0 = 0 /\ T.length + 1 <= ps.length ∨
    (replaceF a ch n1 i j ps).e = 0 /\ Bm (replaceF a ch n1 i j ps).n /\ sz (replaceF a ch n1 i j ps).n <= sz n1 + 27 /\ (ps.length <= 1 -> sz (replaceF a ch n1 i j ps).n <= sz n1) /\ (replaceF a ch n1 i j ps).n.ks.length + KW.length + 1 = n1.ks.length + ps.length ∧
    ∃ B',(∀ y,B'.count y = BA.count y + Bp.count y + BC.count y + T.count y) /\ Nod (replaceF a ch n1 i j ps).a.V c (h + 1) (replaceF a ch n1 i j ps).n lo hi (LA ++ (Lm ++ LC)) B'):=by
 have hkx : kA n1 i = kx:=by unfold kA; rw [hks,hi']; exact zjy9 _ _ _ _
 obtain ⟨T,ev,ec,tl,hT⟩:=zsy9 ch hp hc (fun y hy => htk y (by simp [hy])) (kA n1 i) hkx
 have mx : kx ∈ n1.ks:=by rw [hks]; simp
 have up:=hb.up
 rw [hks] at up
 obtain ⟨uA,uX,uAX⟩:=List.pairwise_append.1 up
 have uX' : ((kx :: KW) ++ KC).Pairwise Kl:=uX
 obtain ⟨uW,uC,uWC⟩:=List.pairwise_append.1 uX'
 have hxh : Lh kx (nxt KC hi):=by
  cases KC with
  | nil => exact (hr kx mx).2
  | cons k K => intro b hb'; cases hb'; exact uWC kx (by simp) k (by simp)
 obtain ⟨k1,k2,k3,k4,k5⟩:=hp.keys hxh (hb.ks _ mx)
 have nt : ∀ y ∈ BA ++ (Bp ++ BC),y ∉ T:=fun y hy e => by have:=ev.fr y e; have:=htk y hy; omega
 rcases hT with ⟨e,c0,tl2⟩ | ⟨e,xs,tl2,B',hB,fo⟩
 ·have e0 : replaceF a ch n1 i j ps = ⟨10,noneN,(kidsF a ch ps).a,(kidsF a ch ps).c⟩:=by simp [replaceF,e]
  rw [e0]
  exact ⟨T,ev,ec,tl,.inl ⟨rfl,c0,tl2⟩⟩
 ·have hks2 : (zai9 n1 i j (keysF kx ps) T).ks = KA ++ (keysF kx ps ++ KC):=by
   show n1.ks.take i ++ (keysF kx ps ++ n1.ks.drop j) = _
   rw [hks,hi',hj,List.take_left]
   congr 2
   rw [show KA.length + KW.length + 1 = KA.length + (KW.length + 1) by omega,<- List.drop_drop,List.drop_left]
   show (KW ++ KC).drop KW.length = KC
   exact List.drop_left
  have hkd2 : (zai9 n1 i j (keysF kx ps) T).kd = DA ++ (T ++ DC):=by
   show n1.kd.take i ++ (T ++ n1.kd.drop j) = _
   rw [hkd,hi',hj,l1,List.take_left]
   congr 2
   rw [show DA.length + KW.length + 1 = DA.length + DW.length by omega,<- List.drop_drop,List.drop_left,List.drop_left]
  have e0 : replaceF a ch n1 i j ps = ⟨0,zai9 n1 i j (keysF kx ps) T,(kidsF a ch ps).a,(kidsF a ch ps).c⟩:=by simp [replaceF,e,xs,hkx]
  rw [hkx] at fo
  rw [e0]
  obtain ⟨q1,q2,q3⟩:=hb.inn hlf
  have lC : DC.length = KC.length:=fC.len
  have hN : Hle (nxt KC hi) hi:=by
   cases KC with
   | nil => exact Hle.refl _
   | cons k K => intro b hb'; exact ⟨k,rfl,((hr k (by rw [hks]; simp)).2 b hb').le⟩
  have hbm : Bm (zai9 n1 i j (keysF kx ps) T):={
   ks:=fun k hk => by
    rw [hks2] at hk
    rcases List.mem_append.1 hk with e | e
    ·exact hb.ks k (by rw [hks]; simp [e])
    ·rcases List.mem_append.1 e with e | e
     ·exact (k3 k e).2.2
     ·exact hb.ks k (by rw [hks]; simp [e])
   up:=by
    rw [hks2]
    refine List.pairwise_append.2 ⟨uA,List.pairwise_append.2 ⟨k2,uC,fun x hx y hy => ?_⟩,fun x hx y hy => ?_⟩
    ·have:=(k3 x hx).2.1
     cases KC with
     | nil => cases hy
     | cons k K =>
      have h1:=this k rfl
      rcases List.mem_cons.1 hy with e | e
      ·rw [e]; exact h1
      ·exact h1.trans ((List.pairwise_cons.1 uC).1 y e)
    ·rcases List.mem_append.1 hy with e | e
     ·exact (uAX x hx kx (by simp)).trans_le (k3 y e).1
     ·exact uAX x hx y (by simp [e])
   ne:=fun e => by have : n1.lf = true:=e; rw [hlf] at this; cases this
   lf:=fun e => by have : n1.lf = true:=e; rw [hlf] at this; cases this
   inn:=fun _ => by
    refine ⟨by rw [hks2,hkd2]; simp only [List.length_append]; omega,q2,fun x hx => ?_⟩
    rw [hkd2] at hx
    rcases List.mem_append.1 hx with e | e
    ·exact q3 x (by rw [hkd]; simp [e])
    ·rcases List.mem_append.1 e with e | e
     ·exact ev.rng ho e
     ·exact q3 x (by rw [hkd]; simp [e]) }
  have hs2 : sz (zai9 n1 i j (keysF kx ps) T) = 1 + (kSum KA + (kSum (keysF kx ps) + kSum KC) + 3 * (KA.length + (ps.length + KC.length))):=by
   rw [zbd9 (by exact hlf) (hbm.inn hlf).1,hks2]
   simp only [zah9,List.length_append,k1]
  have hs1 : sz n1 = 1 + (kSum KA + (kx.size + kSum KW + kSum KC) + 3 * (KA.length + (KW.length + 1 + KC.length))):=by
   rw [zbd9 hlf q1,hks]
   simp only [zah9,zaf9,List.length_append,List.length_cons,List.cons_append]
   omega
  have hln:=hp.ks.1
  refine ⟨T,ev,ec,tl,.inr ⟨rfl,hbm,by rw [hs2,hs1]; omega,fun h1 => by rw [hs2,hs1]; omega,?_,BA ++ (B' ++ BC),fun y => by rw [List.count_append,List.count_append,hB]; omega,hlf,?_,?_⟩⟩
  ·rw [hks2,hks]; simp only [List.length_append,List.length_cons,List.cons_append,k1]; omega
  ·show Rg lo hi (zai9 n1 i j (keysF kx ps) T).ks
   rw [hks2]
   intro k hk
   rcases List.mem_append.1 hk with e | e
   ·exact hr k (by rw [hks]; simp [e])
   ·rcases List.mem_append.1 e with e | e
    ·exact ⟨(hr kx mx).1.trans (k3 k e).1,(k3 k e).2.1.mono hN⟩
    ·exact hr k (by rw [hks]; simp [e])
  ·show Fo (Sub (kidsF a ch ps).a.V c h) (zai9 n1 i j (keysF kx ps) T).ks (zai9 n1 i j (keysF kx ps) T).kd hi (LA ++ (Lm ++ LC)) (BA ++ (B' ++ BC))
   rw [hks2,hkd2]
   have vA : ∀ y ∈ BA ++ (Bp ++ BC),(kidsF a ch ps).a.V y = a.V y:=fun y hy => ev.v y (nt y hy)
   have fA2:=fA.congr (P':=Sub (kidsF a ch ps).a.V c h) (fun x k hi L B1 p q => p.congr (fun y hy => vA y (by simp [q y hy])))
   have fC2:=fC.congr (P':=Sub (kidsF a ch ps).a.V c h) (fun x k hi L B1 p q => p.congr (fun y hy => vA y (by simp [q y hy])))
   refine (Fo.app l1).2 ⟨LA,Lm ++ LC,BA,B' ++ BC,?_,(Fo.app (by rw [k1,tl2])).2 ⟨Lm,LC,B',BC,fo,fC2,rfl,rfl⟩,rfl,rfl⟩
   rw [zkx9,k5]
   split
   ·refine Fo.mono (P:=Sub (kidsF a ch ps).a.V c h) (hi:=some kx) ?_ (fun x k hi hj L B hh s => Sub.mono hh s) fA2
    intro b hb'
    exact ⟨kx,rfl,(hxh b hb').le⟩
   ·exact fA2
end
def BelOk (d : CD) (op : List E2 -> List E2) (c h : Nat) (a : AS) (ch : CH) (n : Nd) (lv : Nat) (lo : ByteArray) (hi : Option ByteArray) (L : List E2) (B : List Int) (r : BR) : Prop:=
 ∃ T X : List Int,Ev a r.a T /\ r.c.tk = ch.tk ++ T /\ T.length <= 2 * h ∧
  (r.e = 10 /\ r.a.A.L.count 0 = 0 ∨
   r.e = 0 /\ (r.c.gn = ch.gn ++ X.filter a.F /\ ∀ y ∈ X,y ∈ B) /\ r.c.lv = lv + h /\ (∃ B' : List Int,(∀ y,B'.count y + X.count y = B.count y + T.count y) /\ Pts r.a.V c h r.ps lo hi (op L) B') ∧
   (d.jn = false -> r.ps ≠ [] /\ ∀ p,r.ps = [p] -> n.ks.length <= p.ks.length) /\ (d.jn = true -> r.ps.length <= 1 /\ T.length + 1 <= X.length))
theorem zeo9 (a : AS) (ch : CH) (x : Int) : (leaveF a ch x).gn = ch.gn ++ [x].filter a.F /\ (leaveF a ch x).tk = ch.tk /\ (leaveF a ch x).lv = ch.lv:=by
 unfold leaveF
 split
 ·rename_i h; simp [h]
 ·rename_i h; simp [h]
section
variable {d : CD} {op : List E2 -> List E2} {c : Nat}
theorem up_fin {h : Nat} {a b : AS} {ch : CH} {n : Nd} {lv : Nat} {lo : ByteArray} {hi : Option ByteArray} {L : List E2} {B T1 T2 X : List Int} {B' : List Int}
  (ev1 : Ev a b T1) {r : NR} (ev2 : Ev b r.a T2) (htk : r.c.tk = ch.tk ++ (T1 ++ T2)) (hT1 : T1.length <= 2 * h) (hT2 : T2.length <= 2) (hgn : r.c.gn = ch.gn ++ X.filter a.F /\ ∀ y ∈ X,y ∈ B) (hlv : r.c.lv = lv + (h + 1))
  (hbm : Bm r.n) (hs : sz r.n <= 292) (hB : ∀ y,B'.count y + X.count y = B.count y + (T1 ++ T2).count y) (hN : Nod r.a.V c (h + 1) r.n lo hi (op L) B')
  (hf : d.jn = false -> 1 <= r.n.ks.length /\ n.ks.length <= r.n.ks.length) (ht : d.jn = true -> sz r.n <= 240 /\ T1.length + T2.length + 1 <= X.length) :
  BelOk d op c (h + 1) a ch n lv lo hi L B ⟨0,piecesF r.n,r.a,r.c⟩:=by
 obtain ⟨p1,p2⟩:=zdc9 hN hbm hs
 refine ⟨T1 ++ T2,X,ev1.trans ev2,htk,by rw [List.length_append]; omega,.inr ⟨rfl,hgn,hlv,⟨B',hB,p1⟩,fun hj => ?_,fun hj => ?_⟩⟩
 ·obtain ⟨f1,f2⟩:=hf hj
  rcases p2 with ⟨e,_⟩ | ⟨e,_⟩ | ⟨e,_⟩
  ·rw [e] at f1; simp at f1
  ·show piecesF r.n ≠ [] /\ ∀ p,piecesF r.n = [p] -> _
   rw [e]; exact ⟨by simp,fun p hp => by cases hp; exact f2⟩
  ·refine ⟨fun h0 => ?_,fun p hp => ?_⟩
   ·have h0' : piecesF r.n = []:=h0
    rw [h0'] at e; simp at e
   ·have h0' : piecesF r.n = [p]:=hp
    rw [h0'] at e; simp at e
 ·obtain ⟨f1,f2⟩:=ht hj
  refine ⟨?_,by rw [List.length_append]; exact f2⟩
  rcases p2 with ⟨_,e⟩ | ⟨e,_⟩ | ⟨_,e⟩
  ·show (piecesF r.n).length <= 1; rw [e]; simp
  ·show (piecesF r.n).length <= 1; rw [e]; simp
  ·omega
theorem zpn9 (hd : LfOk d op) (hc1 : 1 <= c) (hc2 : c <= 2) (hcj : d.jn = true -> c = 1) : ∀ (h f : Nat) (a : AS) (ch : CH) (x : Int) (lv : Nat) (n : Nd) (lo lo' : ByteArray) (hi : Option ByteArray) (L : List E2) (B : List Int),
  a.V x = (0,n) -> Bm n -> 1 <= n.ks.length -> sz n <= 240 -> Nod a.V c h n lo hi L B -> h < f -> lv + h <= 16 -> Ke lo' lo -> Ke lo' d.key -> Lh d.key hi →
  (∀ y,(x :: B).count y <= 1) -> (∀ y ∈ x :: B,Ah.stv a.A y = 1) -> Ao a -> (d.jn = true -> ∃ e ∈ L,e.1 = d.key) →
  BelOk d op c h a ch n lv lo' hi L (x :: B) (belowF d f a ch x lv):=by
 intro h
 induction h with
 | zero =>
  intro f a ch x lv n lo lo' hi L B hV hb hl hs hN hf hlv hlo hk hki hnd hst hao hin
  obtain ⟨f,rfl⟩ : ∃ g,f = g + 1:=⟨f - 1,by omega⟩
  obtain ⟨a1,a2,rfl,rfl⟩:=hN
  have hlk : look a x lv = (0,n):=by unfold look; rw [if_neg (by omega)]; exact hV
  obtain ⟨m1,m2,m3,m4,m5,m6,m7⟩:=hd.lf n lo' hi a1 hb hs (a2.mono hlo (Hle.refl _)) hk hki
  have e0 : belowF d (f + 1) a ch x lv = ⟨0,piecesF (d.lf n),a,{ leaveF a ch x with lv:=lv }⟩:=by
   rw [belowF,hlk]; simp [a1]
  rw [e0]
  obtain ⟨g1,g2,g3⟩:=zeo9 a ch x
  have hN' : Nod a.V c 0 (d.lf n) lo' hi (op (n.ks.zip n.vs)) []:=⟨m1,m4,m5.symm,rfl⟩
  obtain ⟨p1,p2⟩:=zdc9 hN' m2 (by omega)
  refine ⟨[],[x],Ev.refl a,by simp [g2],by simp,.inr ⟨rfl,⟨g1,fun y hy => hy⟩,by simp,⟨[],fun y => by simp,p1⟩,fun hj => ?_,fun hj => ?_⟩⟩
  ·obtain ⟨f1,f2⟩:=m6 hj
   rcases p2 with ⟨e,_⟩ | ⟨e,_⟩ | ⟨e,_⟩
   ·rw [e] at f2; simp at f2
   ·show piecesF (d.lf n) ≠ [] /\ ∀ p,piecesF (d.lf n) = [p] -> _
    rw [e]; exact ⟨by simp,fun p hp => by cases hp; exact f1⟩
   ·refine ⟨fun h0 => ?_,fun p hp => ?_⟩
    ·have h0' : piecesF (d.lf n) = []:=h0
     rw [h0'] at e; simp at e
    ·have h0' : piecesF (d.lf n) = [p]:=hp
     rw [h0'] at e; simp at e
  ·have:=m7 hj
   refine ⟨?_,by simp⟩
   rcases p2 with ⟨_,e⟩ | ⟨e,_⟩ | ⟨_,e⟩
   ·show (piecesF (d.lf n)).length <= 1; rw [e]; simp
   ·show (piecesF (d.lf n)).length <= 1; rw [e]; simp
   ·omega
 | succ h ih =>
  intro f a ch x lv n lo lo' hi L B hV hb hl hs hN hf hlv hlo hk hki hnd hst hao hin
  obtain ⟨f,rfl⟩ : ∃ g,f = g + 1:=⟨f - 1,by omega⟩
  have hN0:=hN
  obtain ⟨a1,a2,a3⟩:=hN
  have hlk : look a x lv = (0,n):=by unfold look; rw [if_neg (by omega)]; exact hV
  obtain ⟨q1,q2,q3⟩:=hb.inn a1
  obtain ⟨pl1,pl2,pl3⟩:=zeu9 a1 d.key n.ks.length
  have pl3:=pl3 hl
  obtain ⟨at_,hat⟩:=exN (plc n d.key n.ks.length)
  rw [hat] at pl1 pl2 pl3
  obtain ⟨K1,K2,hks,lk1⟩:=cut_at eS n.ks pl3
  obtain ⟨D1,D2,hkd,ld1⟩:=cut_at (0 : Int) n.kd (i:=at_) (by omega)
  obtain ⟨k,hk0⟩:=exN (n.ks.getD at_ eS)
  obtain ⟨x1,hx1⟩:=exN (n.kd.getD at_ 0)
  rw [hk0] at hks
  rw [hx1] at hkd
  have hkA : kA n at_ = k:=hk0
  have hdA : dA n at_ = x1:=hx1
  rw [hks,hkd] at a3
  obtain ⟨LA,L2,BA,B2,fA,⟨Lk,LC,Bk,BC,sK,fC,rfl,rfl⟩,rfl,rfl⟩:=(Fo.app (by omega)).1 a3
  have fA : Fo (Sub a.V c h) K1 D1 (some k) LA BA:=fA
  have fC : Fo (Sub a.V c h) K2 D2 hi LC BC:=fC
  obtain ⟨m,Bm1,v1,v2,v3,v4,v5,rfl⟩:=sK
  have hup:=hb.up
  rw [hks] at hup
  obtain ⟨uA,uX,uAX⟩:=List.pairwise_append.1 hup
  obtain ⟨uk,uC⟩:=List.pairwise_cons.1 uX
  -- the key and the kids beside
  have key2 : Lh d.key (nxt K2 hi):=by
   cases K2 with
   | nil => exact hki
   | cons k' K =>
    intro b hb'; cases hb'
    have:=pl1 (at_ + 1) (by omega) (by rw [hks]; simp; omega)
    unfold kA at this
    rw [hks,zn3,List.getElem?_append_right (by omega),show at_ + 1 - K1.length = 1 by omega] at this
    exact this
  have hk1 : K1 = [] ∨ Ke k d.key:=by
   rcases pl2 with e | e
   ·left; exact List.eq_nil_of_length_eq_zero (by omega)
   ·right; rw [<- hkA]; exact e
  obtain ⟨k',hk'⟩ : ∃ q,minS k d.key = q:=⟨_,rfl⟩
  have kk1 : Ke k' k:=by rw [<- hk']; exact zqv9 _ _
  have kk2 : Ke k' d.key:=by rw [<- hk']; exact zqw9 _ _
  have kk3 : K1 = [] ∨ k' = k:=hk1.imp id (fun e => by rw [<- hk']; exact zov9 e)
  have kk4 : k'.size <= 24:=by
   rw [<- hk']; unfold minS; split
   ·exact hd.key
   ·exact hb.ks k (by rw [hks]; simp)
  have kk5 : Ke lo' k':=by
   have h1 : Ke lo' k:=hlo.trans (a2 k (by rw [hks]; simp)).1
   rw [<- hk']; unfold minS; split
   ·exact hk
   ·exact h1
  have key1 : ∀ e ∈ LA,Kl e.1 d.key:=fun e he => by
   rcases hk1 with e1 | e1
   ·subst e1
    have hD : D1 = []:=List.eq_nil_of_length_eq_zero (by have : ([] : List ByteArray).length = 0:=rfl; omega)
    subst hD
    obtain ⟨rfl,rfl⟩:=fA
    cases he
   ·have:=(fA.facts (fun x k hi L B s => Sub.facts s) uA (fun q hq b hb' => by cases hb'; exact uAX q hq k (by simp))).1 e he
    exact (this.2 k rfl).trans_le e1
  have key3 : ∀ e ∈ LC,Kl d.key e.1:=fun e he => by
   obtain ⟨⟨q,K,e1,e2⟩,_⟩:=(fC.facts (fun x k hi L B s => Sub.facts s) uC (fun q hq => (a2 q (by rw [hks]; simp [hq])).2)).1 e he
   exact (key2 q (by rw [e1]; rfl)).trans_le e2
  have hop : op (LA ++ (Lk ++ LC)) = LA ++ (op Lk ++ LC):=hd.loc LA Lk LC key1 key3
  have hinK : d.jn = true -> ∃ e ∈ Lk,e.1 = d.key:=fun hj => by
   obtain ⟨e,he,e1⟩:=hin hj
   rcases List.mem_append.1 he with q | q
   ·have:=key1 e q; rw [e1] at this; exact this.irr.elim
   ·rcases List.mem_append.1 q with q | q
    ·exact ⟨e,q,e1⟩
    ·have:=key3 e q; rw [e1] at this; exact this.irr.elim
  have hkj : d.jn = true -> k' = k:=fun hj => by
   obtain ⟨e,he,e1⟩:=hinK hj
   have:=((v5.facts v2).1 e he).1
   rw [e1] at this
   rw [<- hk']; exact zov9 this
  -- the node with the key beside the kid
  have hset : n.ks.set at_ (minS (kA n at_) d.key) = K1 ++ k' :: K2:=by rw [hkA,hk',hks,List.set_append_right _ _ (by omega),show at_ - K1.length = 0 by omega]; rfl
  obtain ⟨n1,hn1⟩ : ∃ q : Nd,({ n with ks:=n.ks.set at_ (minS (kA n at_) d.key) } : Nd) = q:=⟨_,rfl⟩
  have n1f : n1.lf = false:=by rw [<- hn1]; exact a1
  have n1k : n1.ks = K1 ++ k' :: K2:=by rw [<- hn1]; exact hset
  have n1d : n1.kd = D1 ++ x1 :: D2:=by rw [<- hn1]; exact hkd
  have n1v : n1.vs = []:=by rw [<- hn1]; exact q2
  have n1l : n1.ks.length = n.ks.length:=by rw [n1k,hks]; simp
  have hk2' : ∀ q ∈ K2,Kl k' q:=fun q hq => kk1.trans_lt (uk q hq)
  have n1b : Bm n1:={
   ks:=fun q hq => by
    rw [n1k] at hq
    rcases List.mem_append.1 hq with e | e
    ·exact hb.ks q (by rw [hks]; simp [e])
    ·rcases List.mem_cons.1 e with e | e
     ·rw [e]; exact kk4
     ·exact hb.ks q (by rw [hks]; simp [e])
   up:=by
    rw [n1k]
    refine List.pairwise_append.2 ⟨uA,List.pairwise_cons.2 ⟨hk2',uC⟩,fun p hp q hq => ?_⟩
    rcases List.mem_cons.1 hq with e | e
    ·rcases kk3 with e3 | e3
     ·rw [e3] at hp; cases hp
     ·rw [e,e3]; exact uAX p hp k (by simp)
    ·exact uAX p hp q (by simp [e])
   ne:=fun e => by rw [n1f] at e; cases e
   lf:=fun e => by rw [n1f] at e; cases e
   inn:=fun _ => ⟨by rw [n1l,<- q1,n1d,hkd],n1v,fun y hy => q3 y (by rw [hkd,<- n1d]; exact hy)⟩ }
  have n1s : sz n1 + k.size = sz n + k'.size:=by
   rw [zbd9 n1f (n1b.inn n1f).1,zbd9 a1 q1,n1k,hks]
   simp only [zah9,zaf9,List.length_append,List.length_cons]
   omega
  have n1r : Rg lo' hi n1.ks:=fun q hq => by
   rw [n1k] at hq
   rcases List.mem_append.1 hq with e | e
   ·have:=a2 q (by rw [hks]; simp [e]); exact ⟨hlo.trans this.1,this.2⟩
   ·rcases List.mem_cons.1 e with e | e
    ·rw [e]; exact ⟨kk5,hki.le kk2⟩
    ·have:=a2 q (by rw [hks]; simp [e]); exact ⟨hlo.trans this.1,this.2⟩
  -- the kid
  obtain ⟨g1,g2,g3⟩:=zeo9 a ch x
  have cnt : ∀ y,(x :: (BA ++ ((x1 :: Bm1) ++ BC))).count y = [x].count y + BA.count y + (x1 :: Bm1).count y + BC.count y:=fun y => by
   rw [show x :: (BA ++ ((x1 :: Bm1) ++ BC)) = [x] ++ (BA ++ ((x1 :: Bm1) ++ BC)) from rfl]
   simp only [List.count_append]; omega
  have hK:=ih f a (leaveF a ch x) x1 (lv + 1) m k k' (nxt K2 hi) Lk Bm1 v1 v2 (by omega) v4 v5 (by omega) (by omega) kk1 kk2 key2
   (fun y => by have:=hnd y; rw [cnt] at this; omega) (fun y hy => hst y (by simp only [List.mem_cons,List.mem_append]; simp only [List.mem_cons] at hy; rcases hy with e | e <;> simp [e])) hao hinK
  obtain ⟨r,hr⟩:=exN (belowF d f a (leaveF a ch x) x1 (lv + 1))
  rw [hr] at hK
  have e0 : belowF d (f + 1) a ch x lv = upF d n lv r:=by
   rw [belowF,hlk]; simp only [a1,hat]
   simp [hdA,hr]
  rw [e0]
  obtain ⟨T,X,ev,etk,etl,hR⟩:=hK
  rcases hR with ⟨e,c0⟩ | ⟨e,⟨egn,exb⟩,elv,⟨Bk',hBk,hP⟩,hjf,hjt⟩
  ·have e1 : upF d n lv r = ⟨r.e,[],r.a,r.c⟩:=by unfold upF; rw [if_pos (by rw [e]; decide)]
   rw [e1]
   exact ⟨T,[],ev,by rw [etk,g2],by omega,.inl ⟨e,c0⟩⟩
  have dT : ∀ y ∈ x :: (BA ++ ((x1 :: Bm1) ++ BC)),y ∉ T:=fun y hy ht => by have:=ev.fr y ht; have:=hst y hy; omega
  have aoR:=ev.ao hao
  have hstR : ∀ y ∈ BA ++ (Bk' ++ BC),Ah.stv r.a.A y = 1:=fun y hy => by
   by_cases ht : y ∈ T
   ·exact ev.tk y ht
   ·rw [ev.st y ht]
    refine hst y ?_
    have h1 : 0 < (BA ++ (Bk' ++ BC)).count y:=List.count_pos_iff.2 hy
    have h2 : T.count y = 0:=List.count_eq_zero.2 ht
    have h3:=hBk y
    refine List.count_pos_iff.1 ?_
    rw [cnt]
    simp only [List.count_append] at h1
    omega
  have vR : ∀ y ∈ x :: (BA ++ ((x1 :: Bm1) ++ BC)),r.a.V y = a.V y:=fun y hy => ev.v y (dT y hy)
  have fAr : Fo (Sub r.a.V c h) K1 D1 (some k') LA BA:=by
   have:=fA.congr (P':=Sub r.a.V c h) (fun x k hi L B1 p q => p.congr (fun y hy => vR y (by simp [q y hy])))
   rcases kk3 with e3 | e3
   ·subst e3
    have hD : D1 = []:=List.eq_nil_of_length_eq_zero (by have : ([] : List ByteArray).length = 0:=rfl; omega)
    subst hD
    exact this
   ·rw [e3]; exact this
  have fCr : Fo (Sub r.a.V c h) K2 D2 hi LC BC:=fC.congr (fun x k hi L B1 p q => p.congr (fun y hy => vR y (by simp [q y hy])))
  have hcp : ∀ p ∈ r.ps,c <= p.ks.length:=fun p hp => by
   cases hj : d.jn with
   | true => rw [hcj hj]; exact (hP.ks.2 p hp).2.1
   | false =>
    obtain ⟨j1,j2⟩:=hjf hj
    clear hBk
    generalize op Lk = OL at hP
    generalize hps : r.ps = ps at hP hp j2
    cases hP with
    | zero => cases hp
    | one b1 l1 s1 w1 => rw [List.mem_singleton.1 hp]; have:=j2 _ rfl; omega
    | two b1 l1 s1 b2 l2 s2 w1 w2 =>
     rcases List.mem_cons.1 hp with e | e
     ·rw [e]; omega
     ·rw [List.mem_singleton.1 e]; omega
  have fin : ∀ {KA KW KC : List ByteArray} {DA DW DC : List Int} {LA' Lm' LC' : List E2} {BA' Bp' BC' : List Int} {kx : ByteArray} (cc : CH) (ps : List Nd) (X' : List Int) (i j : Nat),
    n1.ks = KA ++ (kx :: KW ++ KC) -> n1.kd = DA ++ (DW ++ DC) -> KA.length = DA.length -> DW.length = KW.length + 1 -> Fo (Sub r.a.V c h) KA DA (some kx) LA' BA' -> Fo (Sub r.a.V c h) KC DC hi LC' BC' -> Pts r.a.V c h ps kx (nxt KC hi) Lm' Bp' →
    (∀ p ∈ ps,c <= p.ks.length) -> (∀ y ∈ BA' ++ (Bp' ++ BC'),Ah.stv r.a.A y = 1) -> i = KA.length -> j = KA.length + KW.length + 1 -> cc.tk = r.c.tk -> cc.lv = r.c.lv -> cc.gn = ch.gn ++ (x :: X').filter a.F /\ (∀ y ∈ x :: X',y ∈ x :: (BA ++ ((x1 :: Bm1) ++ BC))) →
    LA' ++ (Lm' ++ LC') = op (LA ++ (Lk ++ LC)) -> (∀ y,BA'.count y + Bp'.count y + BC'.count y + (x :: X').count y = (x :: (BA ++ ((x1 :: Bm1) ++ BC))).count y + T.count y) -> (d.jn = false -> KW.length + 1 <= ps.length) -> (d.jn = true -> ps.length <= 1 /\ T.length + 1 <= X'.length) →
    BelOk d op c (h + 1) a ch n lv lo' hi (LA ++ (Lk ++ LC)) (x :: (BA ++ ((x1 :: Bm1) ++ BC)))
    (if (replaceF r.a cc n1 i j ps).e ≠ 0 then ⟨(replaceF r.a cc n1 i j ps).e,[],(replaceF r.a cc n1 i j ps).a,(replaceF r.a cc n1 i j ps).c⟩ else ⟨0,piecesF (replaceF r.a cc n1 i j ps).n,(replaceF r.a cc n1 i j ps).a,(replaceF r.a cc n1 i j ps).c⟩):=by
   intro KA KW KC DA DW DC LA' Lm' LC' BA' Bp' BC' kx cc ps X' i j h1 h2 h3 h4 h5 h6 h7 h8 h9 h10 h11 h12 h13 h14 h15 h16 h17 h18
   obtain ⟨T2,w1,w2,w3,w4⟩:=window cc n1f n1b h1 h2 h3 h4 h5 h6 h7 h8 n1r aoR h9 h10 h11
   have hps2:=h7.ks.1
   rcases w4 with ⟨e1,e2,e3⟩ | ⟨e1,wb,ws,ws1,wl,B',hB',wN⟩
   ·rw [if_pos (by rw [e1]; decide)]
    exact ⟨T ++ T2,[],ev.trans w1,by show (replaceF r.a cc n1 i j ps).c.tk = _; rw [w2]; show cc.tk ++ T2 = _; rw [h12,etk,g2,List.append_assoc],by rw [List.length_append]; omega,.inl ⟨e1,e2⟩⟩
   ·rw [if_neg (by rw [e1]; decide)]
    refine up_fin (X:=x :: X') (B':=B') ev w1 (by rw [w2]; show cc.tk ++ T2 = _; rw [h12,etk,g2,List.append_assoc]) etl (by omega) (by rw [w2]; exact h14) (by rw [w2]; show cc.lv = _; rw [h13,elv]; omega) wb (by have : k'.size <= 24:=kk4; omega) (fun y => ?_) (by rw [<- h15]; exact wN) (fun hj => ?_) (fun hj => ?_)
    ·have q1:=hB' y
     have q2:=h16 y
     rw [List.count_append]
     omega
    ·have:=h17 hj
     omega
    ·obtain ⟨q1,q2⟩:=h18 hj
     have h3:=hkj hj
     rw [h3] at n1s
     have:=ws1 q1
     refine ⟨by omega,?_⟩
     rw [List.length_cons]
     omega
  have xbX : ∀ y ∈ x :: X,y ∈ x :: (BA ++ ((x1 :: Bm1) ++ BC)):=fun y hy => by
   rcases List.mem_cons.1 hy with e | e
   ·simp [e]
   ·have:=exb y e
    simp only [List.mem_cons,List.mem_append] at this ⊢
    exact .inr (.inr (.inl this))
  have gnX : r.c.gn = ch.gn ++ (x :: X).filter a.F:=by
   rw [egn,g1,List.append_assoc]
   congr 1
   simp only [List.filter_cons,List.filter_nil]
   split <;> simp
  have cntX : ∀ y,BA.count y + Bk'.count y + BC.count y + (x :: X).count y = (x :: (BA ++ ((x1 :: Bm1) ++ BC))).count y + T.count y:=fun y => by
   have h2:=hBk y
   rw [cnt,show x :: X = [x] ++ X from rfl,List.count_append]
   omega
  have plain:=fin (KA:=K1) (KW:=[]) (KC:=K2) (DA:=D1) (DW:=[x1]) (DC:=D2) r.c r.ps X at_ (at_ + 1) (by rw [n1k]; rfl) (by rw [n1d]; rfl) (by omega) rfl fAr fCr hP hcp hstR (by omega) (by simp; omega) rfl rfl ⟨gnX,xbX⟩ hop.symm cntX
   (fun hj => by
    cases hp : r.ps with
    | nil => exact absurd hp (hjf hj).1
    | cons => simp) hjt
  unfold upF
  rw [if_neg (by rw [e]; decide)]
  simp only [hat,hn1]
  by_cases hcond : d.jn = true /\ r.ps.length = 1 /\ W (szN (r.ps.getD 0 noneN) (r.ps.getD 0 noneN).ks.length) < 120
  ·rw [if_pos hcond]
   obtain ⟨hj,hp1,hp2⟩:=hcond
   obtain ⟨p,hpp⟩ : ∃ p,r.ps = [p]:=by
    cases hq : r.ps with
    | nil => rw [hq] at hp1; simp at hp1
    | cons p l =>
     cases l with
     | nil => exact ⟨p,rfl⟩
     | cons => rw [hq] at hp1; simp at hp1
   have hpg : r.ps.getD 0 noneN = p:=by rw [hpp]; rfl
   simp only [hpg]
   have hc1':=hcj hj
   have hPp : Bm p /\ 1 <= p.ks.length /\ sz p <= 240 /\ Nod r.a.V c h p k' (nxt K2 hi) (op Lk) Bk':=by
    rw [hpp] at hP
    generalize op Lk = OL at hP
    cases hP with
    | one b1 l1 s1 w1 => exact ⟨b1,l1,s1,w1⟩
   obtain ⟨pb,pl,ps_,pn⟩:=hPp
   have hjt':=hjt hj
   have lkR : ∀ {y : Int} {o : Nd},r.a.V y = (0,o) -> look r.a y (lv + 1) = (0,o):=fun hv => by unfold look; rw [if_neg (by omega)]; exact hv
   have Fr : ∀ y ∈ x :: (BA ++ ((x1 :: Bm1) ++ BC)),r.a.F y = a.F y:=fun y hy => ev.f y (dT y hy)
   -- the one behind
   have right : BelOk d op c (h + 1) a ch n lv lo' hi (LA ++ (Lk ++ LC)) (x :: (BA ++ ((x1 :: Bm1) ++ BC)))
     (let J:=(match besF r.a r.c n1 at_ lv p ((at_ : Int) + 1) with | some q => q | none => ⟨0,p,at_,at_ + 1,r.c⟩ : JR)
     if J.e ≠ 0 then ⟨J.e,[],r.a,J.c⟩ else if (replaceF r.a J.c n1 J.i J.j [J.n]).e ≠ 0 then ⟨(replaceF r.a J.c n1 J.i J.j [J.n]).e,[],(replaceF r.a J.c n1 J.i J.j [J.n]).a,(replaceF r.a J.c n1 J.i J.j [J.n]).c⟩ else ⟨0,piecesF (replaceF r.a J.c n1 J.i J.j [J.n]).n,(replaceF r.a J.c n1 J.i J.j [J.n]).a,(replaceF r.a J.c n1 J.i J.j [J.n]).c⟩):=by
    cases K2 with
    | nil =>
     have hb0 : besF r.a r.c n1 at_ lv p ((at_ : Int) + 1) = none:=by
      unfold besF
      rw [if_pos (.inr (by have:=(n1b.inn n1f).1; rw [n1k] at this; simp at this; omega))]
     rw [hb0]
     rw [hpp] at plain
     simpa using plain
    | cons kc K3 =>
     cases D2 with
     | nil => exact fCr.elim
     | cons xc D3 =>
     obtain ⟨Lc,LD,Bc,BD,sC,fD,rfl,rfl⟩:=fCr
     obtain ⟨o,Bo,o1,o2,o3,o4,o5,rfl⟩:=sC
     have hdc : dA n1 ((at_ : Int) + 1).toNat = xc:=by
      unfold dA
      rw [n1d,show ((at_ : Int) + 1).toNat = D1.length + 1 by omega,zn3,List.getElem?_append_right (by omega)]
      simp
     have hle : ¬ (((at_ : Int) + 1) < 0 ∨ (n1.kd.length : Int) <= (at_ : Int) + 1):=by rw [n1d]; simp; omega
     have hkc : Ke k' kc:=(hk2' kc (by simp)).le
     obtain ⟨j1,j2,j3⟩:=Nod.join (k:=kc) pn o5 pb o2 (by omega) hkc
     by_cases hm : mayN (joinN p o) = true
     ·have hb0 : besF r.a r.c n1 at_ lv p ((at_ : Int) + 1) = some ⟨0,joinN p o,at_,at_ + 2,leaveF r.a r.c xc⟩:=by
       unfold besF
       rw [if_neg hle,hdc,lkR o1]
       simp only [ne_eq,not_true_eq_false,if_false]
       rw [if_neg (by omega),if_pos hm]
      rw [hb0]
      simp only [ne_eq,not_true_eq_false,if_false]
      obtain ⟨y1,y2⟩:=may_sz j2 (by have:=pb.many (by omega); have:=o2.many (by omega); simp only [joinN,List.length_append]; omega) hm
      obtain ⟨z1,z2,z3⟩:=zeo9 r.a r.c xc
      refine fin (KA:=K1) (KW:=[kc]) (KC:=K3) (DA:=D1) (DW:=[x1,xc]) (DC:=D3) (leaveF r.a r.c xc) [joinN p o] (X ++ [xc]) at_ (at_ + 2) (by rw [n1k]; rfl) (by rw [n1d]; rfl) (by omega) rfl fAr fD (Pts.one j2 y1 y2 j1) (fun q hq => by rw [List.mem_singleton.1 hq]; omega) ?_ (by omega) (by simp; omega) z2 z3 ?_ (by rw [hop]; simp [List.append_assoc]) (fun y => ?_) (fun hj' => by rw [hj] at hj'; cases hj') (fun _ => ⟨by simp,by simp; omega⟩)
      ·intro y hy
       refine hstR y ?_
       simp only [List.mem_append,List.mem_cons] at hy ⊢
       rcases hy with e | (e | e) | e
       ·exact .inl e
       ·exact .inr (.inl e)
       ·exact .inr (.inr (.inl (.inr e)))
       ·exact .inr (.inr (.inr e))
      ·refine ⟨?_,fun y hy => (List.mem_append.1 (show y ∈ (x :: X) ++ [xc] from hy)).elim (xbX y) (fun e => by rw [List.mem_singleton.1 e]; simp)⟩
       rw [z1,gnX,List.append_assoc]
       congr 1
       rw [show x :: (X ++ [xc]) = (x :: X) ++ [xc] from rfl,List.filter_append]
       congr 1
       exact List.filter_congr (fun y hy => by rw [List.mem_singleton.1 hy]; exact Fr xc (by simp))
      ·have h1:=cntX y
       rw [show x :: (X ++ [xc]) = (x :: X) ++ [xc] from rfl]
       simp only [List.count_append,List.count_cons,List.count_nil] at h1 ⊢
       omega
     ·have hb0 : besF r.a r.c n1 at_ lv p ((at_ : Int) + 1) = none:=by
       unfold besF
       rw [if_neg hle,hdc,lkR o1]
       simp only [ne_eq,not_true_eq_false,if_false]
       rw [if_neg (by omega),if_neg hm]
      rw [hb0]
      rw [hpp] at plain
      simpa using plain
   rcases List.eq_nil_or_concat K1 with hK | ⟨K0,ka,hK⟩
   ·have hb0 : besF r.a r.c n1 at_ lv p ((at_ : Int) - 1) = none:=by
     unfold besF
     rw [if_pos (.inl (by rw [hK] at lk1; simp at lk1; omega))]
    unfold joinedF
    rw [hb0]
    exact right
   ·have hD : ∃ D0 xa,D1 = D0 ++ [xa]:=by
     rcases List.eq_nil_or_concat D1 with hD | ⟨D0,xa,hD⟩
     ·rw [hK] at lk1; rw [hD] at ld1; simp at lk1 ld1; omega
     ·exact ⟨D0,xa,by rw [hD]; simp⟩
    obtain ⟨D0,xa,hD⟩:=hD
    have hK : K1 = K0 ++ [ka]:=by rw [hK]; simp
    have l0 : K0.length + 1 = at_:=by rw [<- lk1,hK]; simp
    have l0d : D0.length + 1 = at_:=by rw [<- ld1,hD]; simp
    have fAr0:=fAr
    rw [hK,hD] at fAr0
    obtain ⟨L0,La,B0,Ba,f0,fa,eL,eB⟩:=(Fo.app (by omega)).1 fAr0
    have f0 : Fo (Sub r.a.V c h) K0 D0 (some ka) L0 B0:=f0
    obtain ⟨La1,La2,Ba1,Ba2,sa,⟨rfl,rfl⟩,rfl,rfl⟩:=fa
    obtain ⟨o,Bo,o1,o2,o3,o4,o5,rfl⟩:=sa
    have o5 : Nod r.a.V c h o ka (some k') La1 Bo:=o5
    rw [List.append_nil] at eL eB
    have hdc : dA n1 ((at_ : Int) - 1).toNat = xa:=by
     unfold dA
     rw [n1d,hD,show ((at_ : Int) - 1).toNat = D0.length by omega,List.append_assoc]
     exact zjy9 _ _ _ _
    have hle : ¬ (((at_ : Int) - 1) < 0 ∨ (n1.kd.length : Int) <= (at_ : Int) - 1):=by rw [n1d]; simp; omega
    have hkc : Ke ka k':=by
     have:=n1b.up
     rw [n1k] at this
     exact ((List.pairwise_append.1 this).2.2 ka (by rw [hK]; simp) k' (by simp)).le
    obtain ⟨j1,j2,j3⟩:=Nod.join (k:=k') o5 pn o2 pb pl hkc
    by_cases hm : mayN (joinN o p) = true
    ·have hb0 : besF r.a r.c n1 at_ lv p ((at_ : Int) - 1) = some ⟨0,joinN o p,at_ - 1,at_ - 1 + 2,leaveF r.a r.c xa⟩:=by
      unfold besF
      rw [if_neg hle,hdc,lkR o1]
      simp only [ne_eq,not_true_eq_false,if_false]
      rw [if_pos (by omega),if_pos hm,show ((at_ : Int) - 1).toNat = at_ - 1 by omega]
     unfold joinedF
     rw [hb0]
     simp only [ne_eq,not_true_eq_false,if_false]
     obtain ⟨y1,y2⟩:=may_sz j2 (by have:=pb.many (by omega); have:=o2.many (by omega); simp only [joinN,List.length_append]; omega) hm
     obtain ⟨z1,z2,z3⟩:=zeo9 r.a r.c xa
     refine fin (KA:=K0) (KW:=[k']) (KC:=K2) (DA:=D0) (DW:=[xa,x1]) (DC:=D2) (leaveF r.a r.c xa) [joinN o p] (X ++ [xa]) (at_ - 1) (at_ - 1 + 2) (by rw [n1k,hK]; simp) (by rw [n1d,hD]; simp) (by omega) rfl f0 fCr (Pts.one j2 y1 y2 j1) (fun q hq => by rw [List.mem_singleton.1 hq]; omega) ?_ (by omega) (by simp; omega) z2 z3 ?_ (by rw [hop,eL]; simp [List.append_assoc]) (fun y => ?_) (fun hj' => by rw [hj] at hj'; cases hj') (fun _ => ⟨by simp,by simp; omega⟩)
     ·intro y hy
      refine hstR y ?_
      rw [eB]
      simp only [List.mem_append,List.mem_cons] at hy ⊢
      rcases hy with e | (e | e) | e
      ·exact .inl (.inl e)
      ·exact .inl (.inr (.inr e))
      ·exact .inr (.inl e)
      ·exact .inr (.inr e)
     ·refine ⟨?_,fun y hy => (List.mem_append.1 (show y ∈ (x :: X) ++ [xa] from hy)).elim (xbX y) (fun e => by rw [List.mem_singleton.1 e,eB]; simp)⟩
      rw [z1,gnX,List.append_assoc]
      congr 1
      rw [show x :: (X ++ [xa]) = (x :: X) ++ [xa] from rfl,List.filter_append]
      congr 1
      exact List.filter_congr (fun y hy => by rw [List.mem_singleton.1 hy]; exact Fr xa (by rw [eB]; simp))
     ·have h1:=cntX y
      rw [show x :: (X ++ [xa]) = (x :: X) ++ [xa] from rfl]
      rw [eB] at h1 ⊢
      simp only [List.count_append,List.count_cons,List.count_nil] at h1 ⊢
      omega
    ·have hb0 : besF r.a r.c n1 at_ lv p ((at_ : Int) - 1) = none:=by
      unfold besF
      rw [if_neg hle,hdc,lkR o1]
      simp only [ne_eq,not_true_eq_false,if_false]
      rw [if_pos (by omega),if_neg hm]
     unfold joinedF
     rw [hb0]
     exact right
  ·rw [if_neg hcond]
   rw [if_neg (by simp)]
   exact plain
end
def Tr (V : Int -> Int × Nd) (c : Nat) : Nat -> Int -> List E2 -> List Int -> Prop
 | 0,x,L,B => x = 0 /\ L = [] /\ B = []
 | h + 1,x,L,B => h <= 15 /\ x ≠ 0 /\ ∃ n B1,V x = (0,n) /\ Bm n /\ 1 <= n.ks.length /\ sz n <= 240 /\ Nod V c h n eS none L B1 /\ B = x :: B1
theorem Tr.congr {V V' : Int -> Int × Nd} {c lev : Nat} {x : Int} {L : List E2} {B : List Int} (h : Tr V c lev x L B) (e : ∀ y ∈ B,V' y = V y) : Tr V' c lev x L B:=by
 cases lev with
 | zero => exact h
 | succ k =>
  obtain ⟨a0,a00,n,B1,a1,a2,a3,a4,a5,rfl⟩:=h
  exact ⟨a0,a00,n,B1,by rw [e x List.mem_cons_self]; exact a1,a2,a3,a4,a5.congr (fun y hy => e y (List.mem_cons_of_mem _ hy)),rfl⟩
theorem Tr.up {V : Int -> Int × Nd} {c lev : Nat} {x : Int} {L : List E2} {B : List Int} (h : Tr V c lev x L B) : Up L:=by
 cases lev with
 | zero => rw [h.2.1]; exact List.Pairwise.nil
 | succ k =>
  obtain ⟨a0,a00,n,B1,a1,a2,a3,a4,a5,rfl⟩:=h
  exact (a5.facts a2).2
theorem gos_V : ∀ (l : List Int) (a : AS) (y : Int),(a.gos l).V y = (if y ∈ l then a.Q y else a.V y) /\ (a.gos l).Q = a.Q
 | [],a,y => by simp [zhd9]
 | x :: l,a,y => by
  rw [zfz9]
  obtain ⟨h1,h2⟩:=gos_V l (a.go x) y
  refine ⟨?_,h2⟩
  rw [h1]
  by_cases e : y ∈ l
  ·simp [e,AS.go]
  ·by_cases e2 : y = x
   ·subst e2; simp [e,AS.go,updI]
   ·simp [e,e2,AS.go,updI]
section
variable {d : CD} {op : List E2 -> List E2} {c : Nat}
theorem zqm9 : Bm leaf0:=⟨fun k hk => (by cases hk),List.Pairwise.nil,fun _ k hk => (by cases hk),fun _ => ⟨rfl,rfl,fun v hv => (by cases hv)⟩,fun e => (by cases e)⟩
theorem ztx9 : Bm top0:=⟨fun k hk => by rw [List.mem_singleton.1 hk]; decide,by simp [top0],fun e => (by cases e),fun e => (by cases e),fun _ => ⟨rfl,rfl,fun x hx => by rw [List.mem_singleton.1 hx]; decide⟩⟩
def MadeOk (d : CD) (op : List E2 -> List E2) (c lev : Nat) (a : AS) (x : Int) (L : List E2) (B : List Int) (r : WR) : Prop:=
 ∃ T X : List Int,Ev a r.a T /\ r.c.tk = T ∧
  (r.e = 10 /\ r.a.A.L.count 0 = 0 /\ T.length <= 2 * lev ∨
   r.e = 7 /\ d.jn = false /\ lev = 16 /\ (∃ (B' : List Int) (p q : Nd),(∀ y,B'.count y + X.count y = B.count y + T.count y) /\ Pts r.a.V c 15 [p,q] eS none (op L) B') ∨
   r.e = 0 /\ (r.c.gn = X.filter a.F /\ ∀ y ∈ X,y ∈ B) /\ T.length <= 2 * lev + 1 /\ (∃ (B' : List Int) (lev' : Nat),(∀ y,B'.count y + X.count y = B.count y + T.count y) /\ Tr r.a.V c lev' r.x (op L) B') /\ (d.jn = true -> T.length <= X.length))
theorem zno9 (hd : LfOk d op) (hc1 : 1 <= c) (hc2 : c <= 2) (hcj : d.jn = true -> c = 1) {lev : Nat} {a : AS} {x : Int} {L : List E2} {B : List Int} (hT : Tr a.V c lev x L B)
  (hnd : ∀ y,B.count y <= 1) (hst : ∀ y ∈ B,Ah.stv a.A y = 1) (hao : Ao a) (hlo : 1 <= a.A.lo) (hin : d.jn = true -> ∃ e ∈ L,e.1 = d.key) :
  MadeOk d op c lev a x L B (rootedF d a ch0 x):=by
 obtain ⟨r,hr⟩:=exN (partsF d a ch0 x)
 -- what parts tells
 have hP : ∃ (h : Nat) (T X : List Int),Ev a r.a T /\ r.c.tk = T /\ T.length <= 2 * h /\ (lev = h + 1 ∨ lev = 0 /\ h = 0) /\ h <= 15 ∧
   (r.e = 10 /\ r.a.A.L.count 0 = 0 ∨ r.e = 0 /\ (r.c.gn = X.filter a.F /\ ∀ y ∈ X,y ∈ B) /\ (lev = h + 1 /\ r.c.lv = h + 1 ∨ lev = 0 /\ r.c.lv = 0) /\ (∃ B' : List Int,(∀ y,B'.count y + X.count y = B.count y + T.count y) /\ Pts r.a.V c h r.ps eS none (op L) B') ∧
    (lev = 0 -> r.ps.length <= 1 /\ d.jn = false) /\ (d.jn = true -> r.ps.length <= 1 /\ T.length + 1 <= X.length)):=by
  cases lev with
  | zero =>
   obtain ⟨rfl,rfl,rfl⟩:=hT
   have hj : d.jn = false:=by
    cases e : d.jn with
    | false => rfl
    | true => obtain ⟨_,q,_⟩:=hin e; cases q
   have e0 : partsF d a ch0 0 = ⟨0,piecesF (d.lf leaf0),a,ch0⟩:=by unfold partsF; rw [if_pos rfl]
   rw [e0] at hr
   subst hr
   have s0 : sz leaf0 = 1:=rfl
   obtain ⟨m1,m2,m3,m4,m5,m6,m7⟩:=hd.lf leaf0 eS none rfl zqm9 (by rw [s0]; decide) (fun k hk => by cases hk) (Ke.none _) (fun b hb => by cases hb)
   have hN : Nod a.V c 0 (d.lf leaf0) eS none (op []) []:=⟨m1,m4,m5.symm,rfl⟩
   obtain ⟨p1,p2⟩:=zdc9 hN m2 (by omega)
   refine ⟨0,[],[],Ev.refl a,rfl,by simp,.inr ⟨rfl,rfl⟩,by omega,.inr ⟨rfl,⟨rfl,fun y hy => (by cases hy)⟩,.inr ⟨rfl,rfl⟩,⟨[],by simp,p1⟩,fun _ => ⟨?_,hj⟩,fun e => by rw [hj] at e; cases e⟩⟩
   rcases p2 with ⟨_,e⟩ | ⟨e,_⟩ | ⟨_,e⟩
   ·show (piecesF (d.lf leaf0)).length <= 1; rw [e]; simp
   ·show (piecesF (d.lf leaf0)).length <= 1; rw [e]; simp
   ·omega
  | succ h =>
   obtain ⟨a0,a00,n,B1,a1,a2,a3,a4,a5,rfl⟩:=hT
   have e0 : partsF d a ch0 x = belowF d 16 a ch0 x 1:=by unfold partsF; rw [if_neg a00]
   rw [e0] at hr
   have:=zpn9 hd hc1 hc2 hcj h 16 a ch0 x 1 n eS eS none L B1 a1 a2 a3 a4 a5 (by omega) (by omega) (Ke.refl _) (Ke.none _) (fun b hb => by cases hb) hnd hst hao hin
   rw [hr] at this
   obtain ⟨T,X,t1,t2,t3,t4⟩:=this
   refine ⟨h,T,X,t1,by rw [t2]; rfl,t3,.inl rfl,a0,?_⟩
   rcases t4 with t4 | ⟨t5,t6,t7,t8,t9,t10⟩
   ·exact .inl t4
   ·exact .inr ⟨t5,⟨by rw [t6.1]; rfl,t6.2⟩,.inl ⟨rfl,by rw [t7]; omega⟩,t8,fun e => (by cases e),t10⟩
 obtain ⟨h,T,X,ev,etk,etl,hlev,h15,hR⟩:=hP
 have aoR:=ev.ao hao
 rcases hR with ⟨e,c0⟩ | ⟨e,⟨egn,exb⟩,elv,⟨B',hB,hP⟩,hz,hjt⟩
 ·have e1 : rootedF d a ch0 x = ⟨0,r.e,r.a,r.c⟩:=by unfold rootedF; simp only [hr]; rw [if_pos (by rw [e]; decide)]
  rw [e1]
  refine ⟨T,[],ev,etk,.inl ⟨e,c0,?_⟩⟩
  rcases hlev with q | ⟨q,q2⟩ <;> omega
 have hstR : ∀ y ∈ B',Ah.stv r.a.A y = 1:=fun y hy => by
  by_cases ht : y ∈ T
  ·exact ev.tk y ht
  ·rw [ev.st y ht]
   refine hst y ?_
   have h1 : 0 < B'.count y:=List.count_pos_iff.2 hy
   have h2 : T.count y = 0:=List.count_eq_zero.2 ht
   have h3:=hB y
   exact List.count_pos_iff.1 (by omega)
 have ne0 : ∀ {b : AS} {y : Int},b.A.lo = a.A.lo -> Ah.stv b.A y = 1 -> y ≠ 0:=fun hl hs e => by
  have:=zew9 (s:=_) (by rw [hs]; decide)
  omega
 have e2 : rootedF d a ch0 x = (if r.ps.length = 0 then ⟨0,0,r.a,r.c⟩ else
   if r.ps.length = 1 then (if (r.ps.getD 0 noneN).kd.length = 1 then ⟨dA (r.ps.getD 0 noneN) 0,0,r.a,r.c⟩ else writeF r.a r.c (r.ps.getD 0 noneN)) else raiseF r.a r.c r.ps):=by
  unfold rootedF; simp only [hr]; rw [if_neg (by rw [e]; decide)]
 rw [e2]
 have hlev2 : 2 * h <= 2 * lev /\ (lev = 0 -> h = 0):=by rcases hlev with q | ⟨q,q2⟩ <;> constructor <;> omega
 have hP0:=hP
 generalize hps : r.ps = ps at hP hz hjt
 generalize hOL : op L = OL at hP
 cases hP with
 | zero =>
  rw [if_pos (by rfl)]
  refine ⟨T,X,ev,etk,.inr (.inr ⟨rfl,⟨egn,exb⟩,by omega,⟨[],0,hB,rfl,hOL,rfl⟩,fun hj => by have:=(hjt hj).2; omega⟩)⟩
 | one b1 l1 s1 n1 =>
  rename_i p
  rw [if_neg (by simp),if_pos (by rfl)]
  show MadeOk d op c lev a x L B (if p.kd.length = 1 then _ else writeF r.a r.c p)
  by_cases hk : p.kd.length = 1
  ·rw [if_pos hk]
   cases h with
   | zero => rw [(b1.lf n1.1).2.1] at hk; simp at hk
   | succ h =>
    obtain ⟨w1,w2,w3⟩:=n1
    have hkl:=(b1.inn w1).1
    obtain ⟨k,hks⟩ : ∃ k,p.ks = [k]:=by
     cases e3 : p.ks with
     | nil => rw [e3] at l1; simp at l1
     | cons k l => cases l with
      | nil => exact ⟨k,rfl⟩
      | cons => rw [e3] at hkl; simp at hkl; omega
    obtain ⟨y,hkd⟩ : ∃ y,p.kd = [y]:=by
     cases e3 : p.kd with
     | nil => rw [e3] at hk; simp at hk
     | cons k l => cases l with
      | nil => exact ⟨k,rfl⟩
      | cons => rw [e3] at hk; simp at hk
    rw [hks,hkd] at w3
    obtain ⟨L1,L2,B1,B2,⟨m,B3,v1,v2,v3,v4,v5,rfl⟩,⟨rfl,rfl⟩,rfl,rfl⟩:=w3
    have hy : dA p 0 = y:=by unfold dA; rw [hkd]; rfl
    show MadeOk d op c lev a x L B ⟨dA p 0,0,r.a,r.c⟩
    rw [hy]
    refine ⟨T,X,ev,etk,.inr (.inr ⟨rfl,⟨egn,exb⟩,by show T.length <= _; omega,⟨_,h + 1,hB,by omega,?_,m,B3,v1,v2,by omega,v4,?_,by simp⟩,fun hj => by have:=(hjt hj).2; omega⟩)⟩
    ·exact ne0 (b:=r.a) ev.lo (hstR y (by simp))
    ·rw [hOL,List.append_nil]
     exact v5.mono (Ke.none _) (Hle.none _)
  ·rw [if_neg hk]
   rcases zdm9 r.a r.c (b1.may l1 s1) with ⟨e3,c0,ea,ec⟩ | ⟨e3,ev3,ec,ex⟩
   ·exact ⟨T,[],by rw [ea]; exact ev,by rw [ec]; exact etk,.inl ⟨e3,by rw [ea]; exact c0,by omega⟩⟩
   ·generalize hw : writeF r.a r.c p = w at *
    have ntw : ∀ y ∈ B',y ∉ [w.x]:=fun y hy e => by have:=ev3.fr y e; have:=hstR y hy; omega
    refine ⟨T ++ [w.x],X,ev.trans ev3,by rw [ec]; show r.c.tk ++ _ = _; rw [etk],.inr (.inr ⟨e3,⟨by rw [ec]; exact egn,exb⟩,by simp; omega,⟨w.x :: B',h + 1,fun y => ?_,h15,?_,p,B',ex,b1,l1,s1,?_,rfl⟩,fun hj => by have:=(hjt hj).2; simp; omega⟩)⟩
    ·have:=hB y
     simp only [List.count_append,List.count_cons,List.count_nil] at this ⊢
     omega
    ·exact ne0 (b:=w.a) (ev3.lo.trans ev.lo) (ev3.tk w.x (by simp))
    ·rw [hOL]
     exact n1.congr (fun y hy => ev3.v y (ntw y hy))
 | two b1 l1 s1 b2 l2 s2 n1 n2 =>
  rename_i p q L1 L2 B1 B2
  rw [if_neg (by simp),if_neg (by simp)]
  have hjn : d.jn = false:=by
   cases e3 : d.jn with
   | false => rfl
   | true => have:=(hjt e3).1; simp at this
  have hlv : lev = h + 1 /\ r.c.lv = h + 1:=by
   rcases elv with q | ⟨q,_⟩
   ·exact q
   ·have:=(hz q).1; simp at this
  unfold raiseF
  by_cases h16 : r.c.lv = 16
  ·rw [if_pos h16]
   have : h = 15:=by omega
   subst this
   refine ⟨T,X,ev,etk,.inr (.inl ⟨rfl,hjn,by omega,B1 ++ B2,p,q,hB,?_⟩)⟩
   rw [hOL]
   exact .two b1 l1 s1 b2 l2 s2 n1 n2
  ·rw [if_neg h16]
   have hp2 : Pts r.a.V c h [p,q] eS (nxt [] none) (L1 ++ L2) (B1 ++ B2):=.two b1 l1 s1 b2 l2 s2 n1 n2
   obtain ⟨T2,w1,w2,w3,w4⟩:=window (a:=r.a) (n1:=top0) (ps:=[p,q]) (kx:=eS) (KA:=[]) (KW:=[]) (KC:=[]) (DA:=[]) (DW:=[0]) (DC:=[]) (LA:=[]) (LC:=[]) (BA:=[]) (BC:=[]) (lo:=eS) (hi:=none) r.c rfl ztx9 rfl rfl rfl rfl ⟨rfl,rfl⟩ ⟨rfl,rfl⟩ hp2
    (fun m hm => by
     rcases List.mem_cons.1 hm with e | e
     ·rw [e]; omega
     ·rw [List.mem_singleton.1 e]; omega) (fun k hk => ⟨Ke.none _,fun b hb => by cases hb⟩) aoR (fun y hy => hstR y (by simpa using hy)) (i:=0) (j:=1) rfl rfl
   rcases w4 with ⟨e1,e2,e3⟩ | ⟨e1,wb,ws,ws1,wl,B4,hB4,wN⟩
   ·rw [if_pos (by rw [e1]; decide)]
    refine ⟨T ++ T2,[],ev.trans w1,by show (replaceF r.a r.c top0 0 1 [p,q]).c.tk = _; rw [w2]; show r.c.tk ++ T2 = _; rw [etk],.inl ⟨e1,e2,?_⟩⟩
    simp at e3; rw [List.length_append]; omega
   ·rw [if_neg (by rw [e1]; decide)]
    have st : sz top0 = 4:=rfl
    generalize hq : replaceF r.a r.c top0 0 1 [p,q] = Q at *
    have hst4 : ∀ y ∈ B4,Ah.stv Q.a.A y = 1:=fun y hy => by
     by_cases ht : y ∈ T2
     ·exact w1.tk y ht
     ·rw [w1.st y ht]
      refine hstR y ?_
      have h1 : 0 < B4.count y:=List.count_pos_iff.2 hy
      have h2 : T2.count y = 0:=List.count_eq_zero.2 ht
      have h3:=hB4 y
      simp only [List.count_nil] at h3
      exact List.count_pos_iff.1 (by omega)
    have wl' : Q.n.ks.length = 2:=by
     have : top0.ks.length = 1:=rfl
     simp at wl; omega
    rcases zdm9 Q.a Q.c (wb.may (by omega) (by omega)) with ⟨e3,c0,ea,ec⟩ | ⟨e3,ev3,ec,ex⟩
    ·refine ⟨T ++ T2,[],by rw [ea]; exact ev.trans w1,by rw [ec,w2]; show r.c.tk ++ T2 = _; rw [etk],.inl ⟨e3,by rw [ea]; exact c0,?_⟩⟩
     simp at w3; rw [List.length_append]; omega
    ·generalize hw : writeF Q.a Q.c Q.n = w at *
     have ntw : ∀ y ∈ B4,y ∉ [w.x]:=fun y hy e => by have:=ev3.fr y e; have:=hst4 y hy; omega
     refine ⟨(T ++ T2) ++ [w.x],X,(ev.trans w1).trans ev3,by rw [ec,w2]; show (r.c.tk ++ T2) ++ _ = _; rw [etk],.inr (.inr ⟨e3,⟨by rw [ec,w2]; exact egn,exb⟩,?_,⟨w.x :: B4,h + 2,fun y => ?_,by omega,?_,Q.n,B4,ex,wb,by omega,by omega,?_,rfl⟩,fun hj => by rw [hjn] at hj; cases hj⟩)⟩
     ·simp at w3; simp; omega
     ·have:=hB y
      have:=hB4 y
      simp only [List.count_append,List.count_cons,List.count_nil] at *
      omega
     ·exact ne0 (b:=w.a) (ev3.lo.trans (w1.lo.trans ev.lo)) (ev3.tk w.x (by simp))
     ·rw [hOL]
      have:=wN.congr (V':=w.a.V) (fun y hy => ev3.v y (ntw y hy))
      simpa using this
end
def insE (key val : ByteArray) (L : List E2) : List E2:=L.filter (fun e => lts e.1 key) ++ (key,val) :: L.filter (fun e => lts key e.1)
def delE (key : ByteArray) (L : List E2) : List E2:=L.filter (fun e => !eqs e.1 key)
theorem zfg9 {p : E2 -> Bool} {L : List E2} (h : ∀ e ∈ L,p e = true) : L.filter p = L:=List.filter_eq_self.2 h
theorem zcv9 {p : E2 -> Bool} {L : List E2} (h : ∀ e ∈ L,p e = false) : L.filter p = []:=List.filter_eq_nil_iff.2 (fun e he => by rw [h e he]; decide)
theorem eqs_ne {a b : ByteArray} (h : a ≠ b) : eqs a b = false:=by
 cases e : eqs a b with
 | false => rfl
 | true => exact absurd (eqsP.1 e) h
theorem Kl.ne {a b : ByteArray} (h : Kl a b) : a ≠ b:=fun e => by rw [e] at h; exact h.irr
theorem zcx9 {key : ByteArray} (val : ByteArray) {L1 L L2 : List E2} (h1 : ∀ e ∈ L1,Kl e.1 key) (h2 : ∀ e ∈ L2,Kl key e.1) : insE key val (L1 ++ (L ++ L2)) = L1 ++ (insE key val L ++ L2):=by
 unfold insE
 rw [List.filter_append,List.filter_append,List.filter_append,List.filter_append,zfg9 (L:=L1) h1,zcv9 (L:=L2) (fun e he => (h2 e he).le),zcv9 (L:=L1) (fun e he => (h1 e he).le),zfg9 (L:=L2) h2]
 simp
theorem zfv9 {key : ByteArray} {L1 L L2 : List E2} (h1 : ∀ e ∈ L1,Kl e.1 key) (h2 : ∀ e ∈ L2,Kl key e.1) : delE key (L1 ++ (L ++ L2)) = L1 ++ (delE key L ++ L2):=by
 unfold delE
 rw [List.filter_append,List.filter_append,zfg9 (L:=L1) (fun e he => by rw [eqs_ne (h1 e he).ne]; rfl),zfg9 (L:=L2) (fun e he => by rw [eqs_ne (h2 e he).ne.symm]; rfl)]
theorem zkg9 (key val : ByteArray) : insE key val [] = [(key,val)]:=rfl
theorem zkh9 (key val v : ByteArray) : insE key val [(key,v)] = [(key,val)]:=by
 unfold insE
 rw [zcv9 (p:=fun e => lts e.1 key) (L:=[(key,v)]) (fun e he => by rw [List.mem_singleton.1 he]; exact Ke.refl _),zcv9 (L:=[(key,v)]) (fun e he => by rw [List.mem_singleton.1 he]; exact Ke.refl _)]
 rfl
theorem zpq9 (key : ByteArray) : delE key [] = []:=rfl
theorem zpr9 (key v : ByteArray) : delE key [(key,v)] = []:=zcv9 (fun e he => by rw [List.mem_singleton.1 he,show eqs key key = true from eqsP.2 rfl]; rfl)
theorem zgc9 {n : Nd} (hl : n.lf = true) (hb : Bm n) (key : ByteArray) : ∃ (at_ : Nat) (K1 K2 V1 V2 : List ByteArray),plc n key n.ks.length = at_ /\ n.ks = K1 ++ K2 /\ n.vs = V1 ++ V2 /\ K1.length = at_ /\ V1.length = at_ /\ K2.length = V2.length /\ (∀ k ∈ K1,Kl k key) ∧
  ((at_ < n.ks.length /\ eqs (kA n at_) key = true) /\ (∃ K3 v V3,K2 = key :: K3 /\ V2 = v :: V3 /\ vA n at_ = v /\ K3.length = V3.length /\ ∀ k ∈ K3,Kl key k) ∨ ¬ (at_ < n.ks.length /\ eqs (kA n at_) key = true) /\ ∀ k ∈ K2,Kl key k):=by
 obtain ⟨v1,v2,v3⟩:=hb.lf hl
 obtain ⟨p1,p2⟩:=zla9 hl key n.ks.length
 have p3:=plc_le n key n.ks.length
 obtain ⟨at_,hat⟩:=exN (plc n key n.ks.length)
 rw [hat] at p1 p2 p3
 have hlt : ∀ i j,i < j -> j < n.ks.length -> Kl (kA n i) (kA n j):=fun i j h1 h2 => by
  have:=List.pairwise_iff_getElem.1 hb.up i j (by omega) h2 h1
  unfold kA
  rw [zn3,zn3,List.getElem?_eq_getElem h2,List.getElem?_eq_getElem (by omega)]
  exact this
 have hk1 : ∀ k ∈ n.ks.take at_,Kl k key:=fun k hk => by
  obtain ⟨i,hi,rfl⟩:=List.getElem_of_mem hk
  rw [List.length_take] at hi
  have e : (n.ks.take at_)[i]'(by rw [List.length_take]; exact hi) = kA n i:=by
   unfold kA; rw [zn3,List.getElem?_eq_getElem (by omega)]; simp
  rw [e]
  rcases p2 with q | q
  ·omega
  ·by_cases c : i = at_ - 1
   ·rw [c]; exact q
   ·exact (hlt i (at_ - 1) (by omega) (by omega)).trans q
 refine ⟨at_,n.ks.take at_,n.ks.drop at_,n.vs.take at_,n.vs.drop at_,hat,by simp,by simp,by simp; omega,by simp; omega,by simp; omega,hk1,?_⟩
 have hk2 : ∀ k ∈ n.ks.drop at_,∃ j,at_ <= j /\ j < n.ks.length /\ k = kA n j:=fun k hk => by
  obtain ⟨i,hi,rfl⟩:=List.getElem_of_mem hk
  rw [List.length_drop] at hi
  refine ⟨at_ + i,by omega,by omega,?_⟩
  unfold kA; rw [zn3,List.getElem?_eq_getElem (by omega)]; simp
 by_cases c : at_ < n.ks.length /\ eqs (kA n at_) key = true
 ·left
  refine ⟨c,n.ks.drop (at_ + 1),vA n at_,n.vs.drop (at_ + 1),?_,?_,rfl,by simp; omega,fun k hk => ?_⟩
  ·have : kA n at_ = key:=eqsP.1 c.2
   rw [<- this]; unfold kA
   rw [zn3,List.getElem?_eq_getElem c.1]; simp
  ·unfold vA
   rw [zn3,List.getElem?_eq_getElem (by omega)]; simp
  ·obtain ⟨i,hi,rfl⟩:=List.getElem_of_mem hk
   rw [List.length_drop] at hi
   have e : (n.ks.drop (at_ + 1))[i]'(by rw [List.length_drop]; exact hi) = kA n (at_ + 1 + i):=by
    unfold kA; rw [zn3,List.getElem?_eq_getElem (by omega)]; simp
   rw [e,<- eqsP.1 c.2]
   exact hlt at_ _ (by omega) (by omega)
 ·right
  refine ⟨c,fun k hk => ?_⟩
  obtain ⟨j,j1,j2,rfl⟩:=hk2 k hk
  rcases (p1 j j1 j2).or with q | q
  ·exact q
  ·exfalso
   by_cases e : j = at_
   ·subst e; exact c ⟨j2,eqsP.2 q.symm⟩
   ·have h1:=hlt at_ j (by omega) j2
    rw [<- q] at h1
    exact (p1 at_ (zn6 _) (by omega)).not h1
theorem put_lf {key val : ByteArray} (h0 : key ≠ eS) (hk : key.size <= 24) (hv : val.size <= 24) : LfOk ⟨key,insL key val,false⟩ (insE key val) where
 loc:=fun L1 L L2 h1 h2 => zcx9 val h1 h2
 key:=hk
 lf:=by
  intro n lo hi hl hb hs hr hlo hhi
  obtain ⟨v1,v2,v3⟩:=hb.lf hl
  obtain ⟨at_,K1,K2,V1,V2,hat,e1,e2,l1,l2,l3,h1,h2⟩:=zgc9 hl hb key
  have up:=hb.up
  rw [e1] at up
  obtain ⟨u1,u2,u3⟩:=List.pairwise_append.1 up
  have hz : ∀ e ∈ K1.zip V1,Kl e.1 key:=fun e he => h1 _ (List.of_mem_zip he).1
  dsimp only at hlo hhi ⊢
  rcases h2 with ⟨c,K3,v,V3,rfl,rfl,_,l4,h3⟩ | ⟨c,h3⟩
  ·have hm : insL key val n = { n with vs:=V1 ++ val :: V3 }:=by
    unfold insL; simp only [hat]; rw [if_pos c,e2,List.set_append_right _ _ (by omega),show at_ - V1.length = 0 by omega]; rfl
   have hz3 : ∀ e ∈ K3.zip V3,Kl key e.1:=fun e he => h3 _ (List.of_mem_zip he).1
   have hbm : Bm { n with vs:=V1 ++ val :: V3 }:={
    ks:=hb.ks
    up:=hb.up
    ne:=hb.ne
    lf:=fun _ => ⟨by show (V1 ++ val :: V3).length = n.ks.length; rw [e1]; simp; omega,v2,fun w hw => by
     rcases List.mem_append.1 hw with q | q
     ·exact v3 w (by rw [e2]; simp [q])
     ·rcases List.mem_cons.1 q with q | q
      ·rw [q]; exact hv
      ·exact v3 w (by rw [e2]; simp [q])⟩
    inn:=fun e => by have : n.lf = false:=e; rw [hl] at this; cases this }
   rw [hm]
   refine ⟨hl,hbm,?_,hr,?_,fun _ => ⟨zn6 _,by show 1 <= n.ks.length; rw [e1]; simp; omega⟩,fun e => by cases e⟩
   ·rw [zbl9 (n:={ n with vs:=V1 ++ val :: V3 }) hl (hbm.lf hl).1,zbl9 hl v1,e2]
    simp only [zah9,zaf9]
    omega
   ·show n.ks.zip (V1 ++ val :: V3) = _
    rw [e1,e2,List.zip_append (by omega),List.zip_append (by omega),List.zip_cons_cons,List.zip_cons_cons,show (key,v) :: K3.zip V3 = [(key,v)] ++ K3.zip V3 from rfl,zcx9 val hz hz3,zkh9]
    rfl
  ·have hm : insL key val n = { n with ks:=K1 ++ key :: K2,vs:=V1 ++ val :: V2 }:=by
    unfold insL; simp only [hat]; rw [if_neg c,e1,e2,<- l1,List.take_left,List.drop_left,l1,<- l2,List.take_left,List.drop_left,List.set_append_right _ _ (by omega),Nat.sub_self]; rfl
   have hz3 : ∀ e ∈ K2.zip V2,Kl key e.1:=fun e he => h3 _ (List.of_mem_zip he).1
   have hbm : Bm { n with ks:=K1 ++ key :: K2,vs:=V1 ++ val :: V2 }:={
    ks:=fun k hk' => by
     rcases List.mem_append.1 hk' with q | q
     ·exact hb.ks k (by rw [e1]; simp [q])
     ·rcases List.mem_cons.1 q with q | q
      ·rw [q]; exact hk
      ·exact hb.ks k (by rw [e1]; simp [q])
    up:=List.pairwise_append.2 ⟨u1,List.pairwise_cons.2 ⟨h3,u2⟩,fun p hp q hq => by
     rcases List.mem_cons.1 hq with e | e
     ·rw [e]; exact h1 p hp
     ·exact u3 p hp q e⟩
    ne:=fun e k hk' => by
     rcases List.mem_append.1 hk' with q | q
     ·exact hb.ne hl k (by rw [e1]; simp [q])
     ·rcases List.mem_cons.1 q with q | q
      ·rw [q]; exact h0
      ·exact hb.ne hl k (by rw [e1]; simp [q])
    lf:=fun _ => ⟨by show (V1 ++ val :: V2).length = (K1 ++ key :: K2).length; simp; omega,v2,fun w hw => by
     rcases List.mem_append.1 hw with q | q
     ·exact v3 w (by rw [e2]; simp [q])
     ·rcases List.mem_cons.1 q with q | q
      ·rw [q]; exact hv
      ·exact v3 w (by rw [e2]; simp [q])⟩
    inn:=fun e => by have : n.lf = false:=e; rw [hl] at this; cases this }
   rw [hm]
   refine ⟨hl,hbm,?_,fun k hk' => ?_,?_,fun _ => ⟨by show n.ks.length <= (K1 ++ key :: K2).length; rw [e1]; simp,by show 1 <= (K1 ++ key :: K2).length; simp; omega⟩,fun e => by cases e⟩
   ·rw [zbl9 (n:={ n with ks:=K1 ++ key :: K2,vs:=V1 ++ val :: V2 }) hl (hbm.lf hl).1,zbl9 hl v1,e1,e2]
    simp only [zah9,zaf9,List.length_append,List.length_cons]
    omega
   ·rcases List.mem_append.1 hk' with q | q
    ·exact hr k (by rw [e1]; simp [q])
    ·rcases List.mem_cons.1 q with q | q
     ·rw [q]; exact ⟨hlo,hhi⟩
     ·exact hr k (by rw [e1]; simp [q])
   ·show (K1 ++ key :: K2).zip (V1 ++ val :: V2) = _
    rw [e1,e2,List.zip_append (by omega),List.zip_append (by omega),List.zip_cons_cons,show K2.zip V2 = [] ++ K2.zip V2 from rfl,zcx9 val hz hz3,zkg9]
    rfl
theorem del_lf {key : ByteArray} (hk : key.size <= 24) : LfOk ⟨key,delL key,true⟩ (delE key) where
 loc:=fun L1 L L2 h1 h2 => zfv9 h1 h2
 key:=hk
 lf:=by
  intro n lo hi hl hb hs hr hlo hhi
  obtain ⟨v1,v2,v3⟩:=hb.lf hl
  obtain ⟨at_,K1,K2,V1,V2,hat,e1,e2,l1,l2,l3,h1,h2⟩:=zgc9 hl hb key
  have up:=hb.up
  rw [e1] at up
  obtain ⟨u1,u2,u3⟩:=List.pairwise_append.1 up
  have hz : ∀ e ∈ K1.zip V1,Kl e.1 key:=fun e he => h1 _ (List.of_mem_zip he).1
  dsimp only at hlo hhi ⊢
  rcases h2 with ⟨c,K3,v,V3,rfl,rfl,_,l4,h3⟩ | ⟨c,h3⟩
  ·have hm : delL key n = { n with ks:=K1 ++ K3,vs:=V1 ++ V3 }:=by
    unfold delL; simp only [hat]; rw [if_pos c,e1,e2]
    have q1 : (K1 ++ key :: K3).drop (at_ + 1) = K3:=by rw [<- l1,<- List.drop_drop,List.drop_left]; rfl
    have q2 : (V1 ++ v :: V3).drop (at_ + 1) = V3:=by rw [<- l2,<- List.drop_drop,List.drop_left]; rfl
    rw [q1,q2,<- l1,List.take_left,l1,<- l2,List.take_left]
   have hz3 : ∀ e ∈ K3.zip V3,Kl key e.1:=fun e he => h3 _ (List.of_mem_zip he).1
   have hbm : Bm { n with ks:=K1 ++ K3,vs:=V1 ++ V3 }:={
    ks:=fun k hk' => hb.ks k (by rw [e1]; rcases List.mem_append.1 hk' with q | q <;> simp [q])
    up:=List.pairwise_append.2 ⟨u1,(List.pairwise_cons.1 u2).2,fun p hp q hq => u3 p hp q (by simp [hq])⟩
    ne:=fun e k hk' => hb.ne hl k (by rw [e1]; rcases List.mem_append.1 hk' with q | q <;> simp [q])
    lf:=fun _ => ⟨by show (V1 ++ V3).length = (K1 ++ K3).length; simp; omega,v2,fun w hw => v3 w (by rw [e2]; rcases List.mem_append.1 hw with q | q <;> simp [q])⟩
    inn:=fun e => by have : n.lf = false:=e; rw [hl] at this; cases this }
   have hsz : sz { n with ks:=K1 ++ K3,vs:=V1 ++ V3 } <= sz n:=by
    rw [zbl9 (n:={ n with ks:=K1 ++ K3,vs:=V1 ++ V3 }) hl (hbm.lf hl).1,zbl9 hl v1,e1,e2]
    simp only [zah9,zaf9,List.length_append,List.length_cons]
    omega
   rw [hm]
   refine ⟨hl,hbm,by omega,fun k hk' => hr k (by rw [e1]; rcases List.mem_append.1 hk' with q | q <;> simp [q]),?_,fun e => (by cases e),fun _ => hsz⟩
   show (K1 ++ K3).zip (V1 ++ V3) = _
   rw [e1,e2,List.zip_append (by omega),List.zip_append (by omega),List.zip_cons_cons,show (key,v) :: K3.zip V3 = [(key,v)] ++ K3.zip V3 from rfl,zfv9 hz hz3,zpr9]
   rfl
  ·have hm : delL key n = n:=by unfold delL; simp only [hat]; rw [if_neg c]
   have hz3 : ∀ e ∈ K2.zip V2,Kl key e.1:=fun e he => h3 _ (List.of_mem_zip he).1
   rw [hm]
   refine ⟨hl,hb,by omega,hr,?_,fun e => (by cases e),fun _ => zn6 _⟩
   rw [e1,e2,List.zip_append (by omega),show K2.zip V2 = [] ++ K2.zip V2 from rfl,zfv9 hz hz3,zpq9]
def fndE (key : ByteArray) (L : List E2) : ByteArray × Bool:=match L.find? (fun e => eqs e.1 key) with
 | some e => (e.2,true)
 | none => (eS,false)
theorem zjt9 {key : ByteArray} {L1 L L2 : List E2} (h1 : ∀ e ∈ L1,Kl e.1 key) (h2 : ∀ e ∈ L2,Kl key e.1) : fndE key (L1 ++ (L ++ L2)) = fndE key L:=by
 unfold fndE
 have q1 : L1.find? (fun e => eqs e.1 key) = none:=List.find?_eq_none.2 (fun e he => by rw [eqs_ne (h1 e he).ne]; decide)
 have q2 : L2.find? (fun e => eqs e.1 key) = none:=List.find?_eq_none.2 (fun e he => by rw [eqs_ne (h2 e he).ne.symm]; decide)
 rw [List.find?_append,List.find?_append,q1,q2]
 simp
theorem zsf9 {key : ByteArray} {L : List E2} (h : (fndE key L).2 = false) : ∀ e ∈ L,e.1 ≠ key:=by
 unfold fndE at h
 split at h
 ·cases h
 ·rename_i he
  intro e hm e2
  have:=List.find?_eq_none.1 he e hm
  exact this (eqsP.2 e2)
theorem Nod.place {V : Int -> Int × Nd} {c h : Nat} {n : Nd} {lo : ByteArray} {hi : Option ByteArray} {L : List E2} {B : List Int} (key : ByteArray) (H : Nod V c (h + 1) n lo hi L B) (hb : Bm n) (hl : 1 <= n.ks.length) (hki : Lh key hi) :
  ∃ LA Lk LC k hk Bk BA BC,L = LA ++ (Lk ++ LC) /\ B = BA ++ (Bk ++ BC) /\ (∀ e ∈ LA,Kl e.1 key) /\ (∀ e ∈ LC,Kl key e.1) /\ Sub V c h (dA n (plc n key n.ks.length)) k hk Lk Bk /\ Lh key hk:=by
 obtain ⟨a1,a2,a3⟩:=H
 obtain ⟨q1,q2,q3⟩:=hb.inn a1
 obtain ⟨pl1,pl2,pl3⟩:=zeu9 a1 key n.ks.length
 have pl3:=pl3 hl
 obtain ⟨at_,hat⟩:=exN (plc n key n.ks.length)
 rw [hat] at pl1 pl2 pl3 ⊢
 obtain ⟨K1,K2,hks,lk1⟩:=cut_at eS n.ks pl3
 obtain ⟨D1,D2,hkd,ld1⟩:=cut_at (0 : Int) n.kd (i:=at_) (by omega)
 obtain ⟨k,hk0⟩:=exN (n.ks.getD at_ eS)
 obtain ⟨x1,hx1⟩:=exN (n.kd.getD at_ 0)
 rw [hk0] at hks
 rw [hx1] at hkd
 have hkA : kA n at_ = k:=hk0
 have hdA : dA n at_ = x1:=hx1
 rw [hks,hkd] at a3
 obtain ⟨LA,L2,BA,B2,fA,⟨Lk,LC,Bk,BC,sK,fC,rfl,rfl⟩,rfl,rfl⟩:=(Fo.app (by omega)).1 a3
 have fA : Fo (Sub V c h) K1 D1 (some k) LA BA:=fA
 have fC : Fo (Sub V c h) K2 D2 hi LC BC:=fC
 have hup:=hb.up
 rw [hks] at hup
 obtain ⟨uA,uX,uAX⟩:=List.pairwise_append.1 hup
 obtain ⟨uk,uC⟩:=List.pairwise_cons.1 uX
 have key2 : Lh key (nxt K2 hi):=by
  cases K2 with
  | nil => exact hki
  | cons k' K =>
   intro b hb'; cases hb'
   have:=pl1 (at_ + 1) (by omega) (by rw [hks]; simp; omega)
   unfold kA at this
   rw [hks,zn3,List.getElem?_append_right (by omega),show at_ + 1 - K1.length = 1 by omega] at this
   exact this
 refine ⟨LA,Lk,LC,k,nxt K2 hi,Bk,BA,BC,rfl,rfl,fun e he => ?_,fun e he => ?_,by rw [hdA]; exact sK,key2⟩
 ·rcases pl2 with e1 | e1
  ·have hK : K1 = []:=List.eq_nil_of_length_eq_zero (by omega)
   have hD : D1 = []:=List.eq_nil_of_length_eq_zero (by omega)
   subst hK hD
   obtain ⟨rfl,rfl⟩:=fA
   cases he
  ·have:=(fA.facts (fun x k hi L B s => Sub.facts s) uA (fun q hq b hb' => by cases hb'; exact uAX q hq k (by simp))).1 e he
   rw [hkA] at e1
   exact (this.2 k rfl).trans_le e1
 ·obtain ⟨⟨q,K,e1,e2⟩,_⟩:=(fC.facts (fun x k hi L B s => Sub.facts s) uC (fun q hq => (a2 q (by rw [hks]; simp [hq])).2)).1 e he
  exact (key2 q (by rw [e1]; rfl)).trans_le e2
theorem zqe9 {a : AS} {c : Nat} (key : ByteArray) (hc : 1 <= c) : ∀ (h f lv : Nat) (z : List Int) (x : Int) (n : Nd) (lo : ByteArray) (hi : Option ByteArray) (L : List E2) (B : List Int),
  a.V x = (0,n) -> Bm n -> 1 <= n.ks.length -> Nod a.V c h n lo hi L B -> h < f -> lv + h <= 16 -> Lh key hi -> (∀ y,(x :: B).count y <= 1) -> (∀ y ∈ x :: B,y ∉ z) →
  (downF (getW key) a f lv (eS,false) z x).e = 0 /\ (downF (getW key) a f lv (eS,false) z x).s = fndE key L:=by
 intro h
 induction h with
 | zero =>
  intro f lv z x n lo hi L B hV hb hl hN hf hlv hk hnd hz
  obtain ⟨f,rfl⟩ : ∃ g,f = g + 1:=⟨f - 1,by omega⟩
  obtain ⟨a1,a2,rfl,rfl⟩:=hN
  have hlk : look a x lv = (0,n):=by unfold look; rw [if_neg (by omega)]; exact hV
  obtain ⟨at_,K1,K2,V1,V2,hat,e1,e2,l1,l2,l3,h1,h2⟩:=zgc9 a1 hb key
  have hz1 : ∀ e ∈ K1.zip V1,Kl e.1 key:=fun e he => h1 _ (List.of_mem_zip he).1
  unfold downF
  rw [if_neg (hz x (by simp)),hlk]
  simp only [ne_eq,not_true_eq_false,if_false,getW,a1,if_true,hat,goF]
  refine ⟨trivial,?_⟩
  rcases h2 with ⟨c,K3,v,V3,rfl,rfl,hv,l4,h3⟩ | ⟨c,h3⟩
  ·have hz3 : ∀ e ∈ K3.zip V3,Kl key e.1:=fun e he => h3 _ (List.of_mem_zip he).1
   rw [if_pos c,hv,e1,e2,List.zip_append (by omega),List.zip_cons_cons,show (key,v) :: K3.zip V3 = [(key,v)] ++ K3.zip V3 from rfl,zjt9 hz1 hz3]
   unfold fndE
   simp [show eqs key key = true from eqsP.2 rfl]
  ·have hz3 : ∀ e ∈ K2.zip V2,Kl key e.1:=fun e he => h3 _ (List.of_mem_zip he).1
   rw [if_neg c,e1,e2,List.zip_append (by omega),show K2.zip V2 = [] ++ K2.zip V2 from rfl,zjt9 hz1 hz3]
   rfl
 | succ h ih =>
  intro f lv z x n lo hi L B hV hb hl hN hf hlv hk hnd hz
  obtain ⟨f,rfl⟩ : ∃ g,f = g + 1:=⟨f - 1,by omega⟩
  have hlk : look a x lv = (0,n):=by unfold look; rw [if_neg (by omega)]; exact hV
  have a1:=hN.1
  obtain ⟨LA,Lk,LC,k,hk',Bk,BA,BC,rfl,rfl,k1,k2,⟨m,B1,v1,v2,v3,v4,v5,rfl⟩,k3⟩:=hN.place key hb hl hk
  unfold downF
  rw [if_neg (hz x (by simp)),hlk]
  simp only [ne_eq,not_true_eq_false,if_false,getW,a1,Bool.false_eq_true]
  generalize dA n (plc n key n.ks.length) = y at *
  have hcn : ∀ q,[x].count q + BA.count q + (y :: B1).count q + BC.count q <= 1:=fun q => by
   have:=hnd q
   rw [show x :: (BA ++ ((y :: B1) ++ BC)) = [x] ++ (BA ++ ((y :: B1) ++ BC)) from rfl] at this
   simp only [List.count_append] at this
   omega
  have:=ih f (lv + 1) (x :: z) y m k hk' Lk B1 v1 v2 (by omega) v5 (by omega) (by omega) k3 (fun q => by have:=hcn q; omega) (fun q hq hm => by
   rcases List.mem_cons.1 hm with e | e
   ·have h1:=hcn q
    have h2 : 0 < (y :: B1).count q:=List.count_pos_iff.2 hq
    have h3 : 0 < [x].count q:=List.count_pos_iff.2 (by simp [e])
    omega
   ·exact hz q (by simp only [List.mem_cons,List.mem_append] at hq ⊢; rcases hq with e | e <;> simp [e]) e)
  obtain ⟨t1,t2⟩:=this
  have t1' : (downF (getW key) a f (lv + 1) (eS,false) (x :: z) y).e = 0:=t1
  simp only [goF,Bool.false_eq_true,if_false]
  rw [zjt9 k1 k2,<- t2]
  have e0 : ∀ (W : WD (ByteArray × Bool)),W = getW key -> (if (downF W a f (lv + 1) (eS,false) (x :: z) y).e ≠ 0 then downF W a f (lv + 1) (eS,false) (x :: z) y else ⟨0,(downF W a f (lv + 1) (eS,false) (x :: z) y).s,(downF W a f (lv + 1) (eS,false) (x :: z) y).z⟩ : DR (ByteArray × Bool)).e = 0 /\ (if (downF W a f (lv + 1) (eS,false) (x :: z) y).e ≠ 0 then downF W a f (lv + 1) (eS,false) (x :: z) y else ⟨0,(downF W a f (lv + 1) (eS,false) (x :: z) y).s,(downF W a f (lv + 1) (eS,false) (x :: z) y).z⟩ : DR (ByteArray × Bool)).s = (downF (getW key) a f (lv + 1) (eS,false) (x :: z) y).s:=by
   rintro W rfl
   rw [if_neg (by rw [t1']; decide)]
   exact ⟨rfl,rfl⟩
  exact e0 _ rfl
theorem get_tr {a : AS} {c lev : Nat} {x : Int} {L : List E2} {B : List Int} (hc : 1 <= c) (h : Tr a.V c lev x L B) (hnd : ∀ y,B.count y <= 1) (key : ByteArray) : (getF a x key).e = 0 /\ (getF a x key).s = fndE key L:=by
 unfold getF fromF
 cases lev with
 | zero => obtain ⟨rfl,rfl,rfl⟩:=h; rw [if_pos rfl]; exact ⟨rfl,rfl⟩
 | succ h' =>
  obtain ⟨a0,a00,n,B1,a1,a2,a3,a4,a5,rfl⟩:=h
  rw [if_neg a00]
  exact zqe9 key hc h' 16 1 [] x n eS none L B1 a1 a2 a3 a5 (by omega) (by omega) (fun b hb => by cases hb) hnd (fun y _ h => by cases h)
theorem Nod.weak {V : Int -> Int × Nd} {c c' : Nat} (hc : c' <= c) : ∀ {h n lo hi L B},Nod V c h n lo hi L B -> Nod V c' h n lo hi L B
 | 0,_,_,_,_,_,h => h
 | h + 1,_,_,_,_,_,⟨h1,h2,h3⟩ => ⟨h1,h2,h3.congr (by
   rintro x k hi L B1 ⟨m,B2,a1,a2,a3,a4,a5,a6⟩ q
   exact ⟨m,B2,a1,a2,by omega,a4,Nod.weak hc a5,a6⟩)⟩
theorem Tr.weak {V : Int -> Int × Nd} {c c' lev : Nat} {x : Int} {L : List E2} {B : List Int} (hc : c' <= c) (h : Tr V c lev x L B) : Tr V c' lev x L B:=by
 cases lev with
 | zero => exact h
 | succ k =>
  obtain ⟨a0,a00,n,B1,a1,a2,a3,a4,a5,rfl⟩:=h
  exact ⟨a0,a00,n,B1,a1,a2,a3,a4,a5.weak hc,rfl⟩
theorem Tr.few {V : Int -> Int × Nd} {lev : Nat} {x : Int} {L : List E2} {B : List Int} (h : Tr V 2 lev x L B) : B.length <= L.length /\ (lev = 0 ∨ 2 ^ (lev - 1) <= L.length):=by
 cases lev with
 | zero => rw [h.2.2]; exact ⟨zn7 _,.inl rfl⟩
 | succ k =>
  obtain ⟨a0,a00,n,B1,a1,a2,a3,a4,a5,rfl⟩:=h
  have h1:=a5.blk (zn6 _) a2
  have h2:=a5.cnt a2
  refine ⟨by rw [List.length_cons]; omega,.inr ?_⟩
  exact zn2 (Nat.le_mul_of_pos_right _ a3) h2
theorem Tr.none_iff {V : Int -> Int × Nd} {c lev : Nat} {x : Int} {L : List E2} {B : List Int} (hc : 1 <= c) (h : Tr V c lev x L B) : (x = 0 ↔ L = []):=by
 cases lev with
 | zero => exact ⟨fun _ => h.2.1,fun _ => h.1⟩
 | succ k =>
  obtain ⟨a0,a00,n,B1,a1,a2,a3,a4,a5,rfl⟩:=h
  have h2:=a5.cnt a2
  refine ⟨fun e => absurd e a00,fun e => ?_⟩
  rw [e] at h2
  have : 0 < c ^ k:=Nat.pow_pos (by omega)
  have:=Nat.mul_pos this a3
  simp at h2
  omega
theorem go_A {a : AS} {x : Int} (hx : Ah.stv a.A x = 1) : (∀ y,Ah.stv (a.go x).A y = if y = x then 0 else Ah.stv a.A y) /\ (a.go x).A.L.count 0 = a.A.L.count 0 + 1 /\ (a.go x).A.lo = a.A.lo /\ (a.go x).A.L.length = a.A.L.length /\ (a.go x).A.as = a.A.as:=by
 have hr:=zew9 (s:=a.A) (x:=x) (by rw [hx]; decide)
 have hb : Ah.back x a.A = (true,Ah.put a.A (x - a.A.lo).toNat 0):=by unfold Ah.back; rw [if_neg (by omega)]
 have hp : ∀ m,Ah.stv (Ah.put a.A (x - a.A.lo).toNat 0) m = if m = x then 0 else Ah.stv a.A m:=fun m => by
  rw [Ah.stv_put (by omega),show ((a.A.lo + (x - a.A.lo).toNat : Nat) : Int) = x by omega]
 unfold AS.go
 rw [hb]
 refine ⟨hp,?_,rfl,by simp [Ah.put],rfl⟩
 have:=Ah.cnt_set a.A.L (x - a.A.lo).toNat (by omega) 0 0
 have hg : Ah.G a.A.L (x - a.A.lo).toNat = 1:=by
  unfold Ah.stv at hx
  rw [if_pos hr] at hx
  exact hx
 rw [hg] at this
 show (a.A.L.set (x - a.A.lo).toNat 0).count 0 = _
 rw [if_neg (by decide),if_pos rfl] at this
 omega
theorem gos_A : ∀ (l : List Int) (a : AS),l.Nodup -> (∀ y ∈ l,Ah.stv a.A y = 1) -> (∀ y,Ah.stv (a.gos l).A y = if y ∈ l then 0 else Ah.stv a.A y) /\ (a.gos l).A.L.count 0 = a.A.L.count 0 + l.length /\ (a.gos l).A.lo = a.A.lo /\ (a.gos l).A.L.length = a.A.L.length /\ (a.gos l).A.as = a.A.as
 | [],a,_,_ => ⟨fun y => by simp [zhd9],by simp [zhd9],rfl,rfl,rfl⟩
 | x :: l,a,hn,hs => by
  obtain ⟨n1,n2⟩:=List.nodup_cons.1 hn
  obtain ⟨g1,g2,g3,g4,g5⟩:=go_A (hs x List.mem_cons_self)
  obtain ⟨t1,t2,t3,t4,t5⟩:=gos_A l (a.go x) n2 (fun y hy => by
   rw [g1,if_neg (fun (e : y = x) => n1 (e ▸ hy))]
   exact hs y (List.mem_cons_of_mem _ hy))
  rw [zfz9]
  refine ⟨fun y => ?_,by rw [t2,g2,List.length_cons]; omega,t3.trans g3,t4.trans g4,t5.trans g5⟩
  rw [t1,g1]
  by_cases e : y ∈ l
  ·simp [e]
  ·by_cases e2 : y = x
   ·simp [e,e2]
   ·simp [e,e2]
theorem gos_FP : ∀ (l : List Int) (a : AS) (x : Int),(a.gos l).F x = (if x ∈ l then false else a.F x)
 | [],a,x => by simp [zhd9]
 | y :: l,a,x => by
  rw [zfz9,gos_FP l]
  by_cases h : x ∈ l
  ·simp [h]
  ·by_cases e : x = y
   ·subst e; simp [AS.go,updI]
   ·simp [h,e,AS.go,updI]
theorem len_eq {A B C D : List Int} (h : ∀ y,A.count y + B.count y = C.count y + D.count y) : A.length + B.length = C.length + D.length:=by
 have : (A ++ B).Perm (C ++ D):=List.perm_iff_count.2 (fun y => by rw [List.count_append,List.count_append]; exact h y)
 have:=this.length_eq
 rwa [List.length_append,List.length_append] at this
structure Stp (a a' : AS) (T X : List Int) : Prop where
 v : ∀ y,y ∉ T -> y ∉ X -> a'.V y = a.V y
 f : ∀ y,a'.F y = true ↔ (y ∈ T ∨ a.F y = true) /\ y ∉ X
 st : ∀ y,Ah.stv a'.A y = if y ∈ X then 0 else if y ∈ T then 1 else Ah.stv a.A y
 ct : a'.A.L.count 0 + T.length = a.A.L.count 0 + X.length
 lo : a'.A.lo = a.A.lo
 ln : a'.A.L.length = a.A.L.length
 sa : a.A.as = 0 -> a'.A.as = 0
 fr : ∀ y ∈ T,Ah.stv a.A y = 0
theorem Ev.stp {a b : AS} {T X : List Int} (h : Ev a b T) (hn : X.Nodup) (hs : ∀ y ∈ X,Ah.stv a.A y = 1) : Stp a (b.gos X) T X:=by
 have dj : ∀ y ∈ X,y ∉ T:=fun y hy ht => by have:=h.fr y ht; have:=hs y hy; omega
 obtain ⟨g1,g2,g3,g4,g5⟩:=gos_A X b hn (fun y hy => by rw [h.st y (dj y hy)]; exact hs y hy)
 refine ⟨fun y h1 h2 => ?_,fun y => ?_,fun y => ?_,by have:=h.ct; omega,g3.trans h.lo,g4.trans h.ln,fun e => g5.trans (h.sa e),h.fr⟩
 ·rw [(gos_V X b y).1,if_neg h2]; exact h.v y h1
 ·rw [gos_FP]
  by_cases e : y ∈ X
  ·simp [e]
  ·rw [if_neg e]
   by_cases e2 : y ∈ T
   ·simp [e,e2,h.ft y e2]
   ·simp [e,e2,h.f y e2]
 ·rw [g1]
  by_cases e : y ∈ X
  ·simp [e]
  ·by_cases e2 : y ∈ T
   ·simp [e,e2,h.tk y e2]
   ·simp [e,e2,h.st y e2]
theorem fil2 {p q : E2 -> Bool} (h : ∀ e,¬ (p e = true /\ q e = true)) : ∀ L : List E2,(L.filter p).length + (L.filter q).length <= L.length
 | [] => by simp
 | e :: L => by
  have:=fil2 h L
  have:=h e
  simp only [List.filter_cons]
  split
  ·split
   ·rename_i h1 h2; exact absurd ⟨h1,h2⟩ this
   ·simp only [List.length_cons]; omega
  ·split
   ·simp only [List.length_cons]; omega
   ·simp only [List.length_cons]; omega
theorem zga9 (key val : ByteArray) (L : List E2) : (insE key val L).length <= L.length + 1:=by
 unfold insE
 rw [List.length_append,List.length_cons]
 have h:=fil2 (p:=fun e => lts e.1 key) (q:=fun e => lts key e.1) (fun e ⟨h1,h2⟩ => Kl.irr (Kl.trans (a:=e.1) h1 h2)) L
 generalize (L.filter fun e => lts e.1 key).length = u at *
 generalize (L.filter fun e => lts key e.1).length = v at *
 omega
structure All (a : AS) (c lev : Nat) (x : Int) (L : List E2) (B : List Int) : Prop where
 tr : Tr a.V c lev x L B
 nd : ∀ y,B.count y <= 1
 nw : ∀ y ∈ B,a.F y = true /\ Ah.stv a.A y = 1
structure Amp (a : AS) : Prop where
 ao : Ao a
 lo : 1 <= a.A.lo
 sa : a.A.as = 0
theorem Stp.amp {a a' : AS} {T X : List Int} (h : Stp a a' T X) (m : Amp a) : Amp a':=⟨by have:=m.ao; unfold Ao at *; rw [h.lo,h.ln]; exact this,by rw [h.lo]; exact m.lo,h.sa m.sa⟩
theorem zjc9 {d : CD} {op : List E2 -> List E2} {c : Nat} (hd : LfOk d op) (hc1 : 1 <= c) (hc2 : c <= 2) (hcj : d.jn = true -> c = 1) {lev : Nat} {a : AS} {x : Int} {L : List E2} {B : List Int} (h : All a c lev x L B) (m : Amp a)
  (hin : d.jn = true -> ∃ e ∈ L,e.1 = d.key) (hroom : 2 * lev + 1 <= a.A.L.count 0) (hdeep : d.jn = false -> (op L).length < 65536 /\ c = 2) :
  (madeF d a x).e = 0 /\ ∃ lev' B' T X,All (madeF d a x).a c lev' (madeF d a x).x (op L) B' /\ Stp a (madeF d a x).a T X /\ (∀ y,B'.count y + X.count y = B.count y + T.count y) /\ (d.jn = true -> B'.length <= B.length):=by
 have hm:=zno9 hd hc1 hc2 hcj h.tr h.nd (fun y hy => (h.nw y hy).2) m.ao m.lo hin
 obtain ⟨r,hr⟩:=exN (rootedF d a ch0 x)
 rw [hr] at hm
 obtain ⟨T,X,ev,etk,hR⟩:=hm
 have nt : ∀ y ∈ B,y ∉ T:=fun y hy ht => by have:=ev.fr y ht; have:=(h.nw y hy).2; omega
 rcases hR with ⟨e,c0,tl⟩ | ⟨e,hjn,l16,B',p,q,hB,hP⟩ | ⟨e,⟨egn,exb⟩,tl,⟨B',lev',hB,hT⟩,hj⟩
 ·have:=ev.ct; omega
 ·exfalso
  obtain ⟨h1,h2⟩:=hdeep hjn
  subst h2
  generalize hOL : op L = OL at hP h1
  cases hP with
  | two b1 l1 s1 b2 l2 s2 n1 n2 =>
   have:=n1.cnt b1
   have h3 : 2 ^ 15 * 2 <= 2 ^ 15 * p.ks.length:=Nat.mul_le_mul_left _ l1
   rw [List.length_append] at h1
   omega
 ·have xnt : ∀ y ∈ X,y ∉ T:=fun y hy => nt y (exb y hy)
  have hxn : ∀ y,X.count y <= 1 /\ (y ∈ X -> B'.count y = 0):=fun y => by
   have h2:=hB y
   have h3:=h.nd y
   by_cases hy : y ∈ X
   ·have h4 : 0 < X.count y:=List.count_pos_iff.2 hy
    have : T.count y = 0:=List.count_eq_zero.2 (xnt y hy)
    exact ⟨by omega,fun _ => by omega⟩
   ·exact ⟨by have:=List.count_eq_zero.2 hy; omega,fun e => absurd e hy⟩
  have hfil : X.filter a.F = X:=List.filter_eq_self.2 (fun y hy => (h.nw y (exb y hy)).1)
  have e0 : madeF d a x = ⟨r.x,0,r.a.gos X⟩:=by
   unfold madeF; simp only [hr]; rw [if_neg (by rw [e]; decide),egn,hfil]
  rw [e0]
  have stp:=ev.stp (X:=X) (List.nodup_iff_count.2 (fun y => (hxn y).1)) (fun y hy => (h.nw y (exb y hy)).2)
  have hb' : ∀ y ∈ B',y ∉ X:=fun y hy hx => by have:=(hxn y).2 hx; have:=List.count_pos_iff.2 hy; omega
  refine ⟨rfl,lev',B',T,X,⟨hT.congr (fun y hy => ?_),fun y => ?_,fun y hy => ?_⟩,stp,hB,fun hjt => ?_⟩
  ·rw [(gos_V X r.a y).1,if_neg (hb' y hy)]
  ·have h2:=hB y
   have h3:=h.nd y
   by_cases ht : y ∈ T
   ·have h4 : T.count y <= 1:=List.nodup_iff_count.1 ev.nd y
    have h5 : B.count y = 0:=List.count_eq_zero.2 (fun hb => nt y hb ht)
    omega
   ·have : T.count y = 0:=List.count_eq_zero.2 ht
    omega
  ·have h1 : y ∈ T ∨ y ∈ B:=by
    have h2:=hB y
    have h3:=List.count_pos_iff.2 hy
    by_cases ht : y ∈ T
    ·exact .inl ht
    ·have : T.count y = 0:=List.count_eq_zero.2 ht
     exact .inr (List.count_pos_iff.1 (by omega))
   refine ⟨(stp.f y).2 ⟨h1.imp id (fun hb => (h.nw y hb).1),hb' y hy⟩,?_⟩
   rw [stp.st,if_neg (hb' y hy)]
   split
   ·rfl
   ·rename_i ht; exact (h.nw y (h1.resolve_left ht)).2
  ·have:=hj hjt
   have:=len_eq hB
   omega
theorem zrp9 {lev : Nat} {a : AS} {x : Int} {L : List E2} {B : List Int} (h : All a 2 lev x L B) (m : Amp a) {key val : ByteArray} (h0 : key ≠ eS) (hk : key.size <= 24) (hv : val.size <= 24) (hl : L.length <= 1000) (hroom : 22 <= a.A.L.count 0) :
  (putF a x key val).e = 0 /\ ∃ lev' B' T X,All (putF a x key val).a 2 lev' (putF a x key val).x (insE key val L) B' /\ Stp a (putF a x key val).a T X /\ (∀ y,B'.count y + X.count y = B.count y + T.count y):=by
 have e0 : putF a x key val = madeF ⟨key,insL key val,false⟩ a x:=by
  unfold putF
  rw [if_neg]
  rintro (q | q | q)
  ·exact h0 (eqsP.1 q)
  ·omega
  ·omega
 rw [e0]
 have hfew:=h.tr.few
 have hlev : lev <= 10:=by
  rcases hfew.2 with q | q
  ·omega
  ·by_cases c : lev <= 10
   ·exact c
   ·exfalso
    have : 2 ^ 10 <= 2 ^ (lev - 1):=Nat.pow_le_pow_right (by decide) (by omega)
    omega
 obtain ⟨h1,lev',B',T,X,h2,h3,h4,_⟩:=zjc9 (put_lf h0 hk hv) (by decide) (by decide) (fun e => by cases e) h m (fun e => by cases e) (by omega) (fun _ => ⟨by have:=zga9 key val L; omega,rfl⟩)
 exact ⟨h1,lev',B',T,X,h2,h3,h4⟩
theorem zro9 {lev : Nat} {a : AS} {x : Int} {L : List E2} {B : List Int} (h : All a 1 lev x L B) (m : Amp a) {key : ByteArray} (hk : key.size <= 24) (hin : ∃ e ∈ L,e.1 = key) (hroom : 33 <= a.A.L.count 0) :
  (delF a x key).e = 0 /\ (delF a x key).ok = true /\ ∃ lev' B' T X,All (delF a x key).a 1 lev' (delF a x key).x (delE key L) B' /\ Stp a (delF a x key).a T X /\ (∀ y,B'.count y + X.count y = B.count y + T.count y) /\ B'.length <= B.length:=by
 obtain ⟨g1,g2⟩:=get_tr (zn6 _) h.tr h.nd key
 have g3 : (fndE key L).2 = true:=by
  cases e : (fndE key L).2 with
  | true => rfl
  | false => obtain ⟨q,hq,e2⟩:=hin; exact absurd e2 (zsf9 e q hq)
 have hlev : lev <= 16:=by
  have:=h.tr
  cases lev with
  | zero => omega
  | succ k => have:=this.1; omega
 obtain ⟨h1,lev',B',T,X,h2,h3,h4,h5⟩:=zjc9 (del_lf hk) (zn6 _) (by decide) (fun _ => rfl) h m (fun _ => hin) (by omega) (fun e => by cases e)
 have e0 : delF a x key = ⟨(madeF ⟨key,delL key,true⟩ a x).x,true,0,(madeF ⟨key,delL key,true⟩ a x).a⟩:=by
  unfold delF
  rw [if_neg (by rw [g1]; decide),if_pos (by rw [g2]; exact g3),h1]
  rfl
 rw [e0]
 exact ⟨rfl,rfl,lev',B',T,X,h2,h3,h4,h5 rfl⟩
end Go.Proofs.YtjhccpijpffahaaGreat
