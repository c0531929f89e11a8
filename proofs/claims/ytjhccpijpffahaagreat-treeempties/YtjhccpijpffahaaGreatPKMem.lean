import Derived.Test.YtjhccpijpffahaaGreatPDMap
import Derived.Test.YtjhccpijpffahaaGreatPKSl
import Derived.Test.YtjhccpijpffahaaGreatPRow0
import Derived.Test.YtjhccpijpffahaaGreatPBBlk
import Derived.Test.YtjhccpijpffahaaGreatPDWr
set_option maxRecDepth 100000
set_option linter.unusedVariables false
set_option linter.unusedSimpArgs false
set_option maxHeartbeats 8000000
namespace Go.Proofs.YtjhccpijpffahaaGreat
open Go.RowKit Go.Maps
def hent (k : Int) (v : Value) (b : Bool) : Value:=.agg #[.int .i64 k,v,.bool b]
def hent0 : Value:=hent 0 (.slice none 0 0) false
theorem zeroH (w : World) : (zeroValue 127).run Tryz.prog w = .ok hent0 w:=by kernel_rfl
def gh (g : Nat -> Option Value) (i : Nat) : Value:=(g i).getD hent0
section
variable {w : World} {b n : Nat} {g : Nat -> Option Value}
theorem Mp.lookOk (h : Mp w b n g) {i : Nat} (hi : i < n) (hn : i < 9223372036854775808) :
  (Instr.lookup 128 (.map (some b)) (.int .i64 (i : Int)) true).run Tryz.prog w = .ok (.tuple #[gh g i,.bool (g i).isSome]) w:=by
 obtain ⟨v,ps,hr,hv⟩:=World.ownsMap.look_ok h keyed3 Tryz.underlying128 (zeroH w) (zd:=.held hent0) (zp:=[]) rfl (key3 (i:=i) hn)
 rw [hr]
 unfold gh
 cases e : g i with
 | none =>
  have h0 : Maps.has (Dm n g) (Lit.int .i64 (i : Int)) = false:=by
   rw [Bool.eq_false_iff]
   intro h0
   obtain ⟨j,u,_,hj,e2⟩:=dm_has.1 h0
   simp at e2
   have e2 : i = j:=by omega
   subst e2
   rw [e] at hj
   cases hj
  rw [dm_not e] at hv
  simp only [Rv,Option.some.injEq,Prod.mk.injEq,DataW.held.injEq] at hv
  rw [hv.1,h0]
  rfl
 | some u =>
  have h0 : Maps.has (Dm n g) (Lit.int .i64 (i : Int)) = true:=dm_has.2 ⟨i,u,hi,e,rfl⟩
  rw [dm_at hi e] at hv
  simp only [Rv,Option.some.injEq,Prod.mk.injEq,DataW.held.injEq] at hv
  rw [hv.1,h0]
  rfl
theorem Mp.putH (h : Mp w b n g) {i : Nat} (hi : i < n) (hn : n <= 4096) (val : Value) :
  ∃ w',(Instr.mapUpdate 128 (.map (some b)) (.int .i64 (i : Int)) val).run Tryz.prog w = .ok () w' /\ Mp w' b n (gput g i (some val)) /\ Tch (fun k => k = b) w w':=by
 obtain ⟨w',hrun,r1,r2⟩:=World.ownsMap.update (val:=val) (d:=.held val) (ps:=[]) h keyed3 Tryz.underlying128 (by unfold maxLen; omega) (key3 (i:=i) (by omega)) rfl
 exact ⟨w',hrun,mp_of r1 (dm_put hi val (r1.canon keyed3)),(Tch.of_grown r2).mono (fun k _ e => by cases e; rfl)⟩
def gdel (g : Nat -> Option Value) (z : Int) (i : Nat) : Option Value:=if (i : Int) = z then none else g i
theorem zog9 {z : Int} (hc : Canon ((Dm n g).del (Lit.int .i64 z))) : (Dm n g).del (Lit.int .i64 z) = Dm n (gdel g z):=by
 refine dm_ext hc (fun k => ?_) (fun j u hj hu y => ?_)
 ·by_cases e : k = Lit.int .i64 z
  ·subst e
   rw [has_del_same]
   constructor
   ·intro h; cases h
   ·intro h
    obtain ⟨j,u,hj,hu,e⟩:=dm_has.1 h
    simp at e
    simp [gdel,e] at hu
  ·rw [has_del_other e,dm_has,dm_has]
   constructor
   ·rintro ⟨j,u,hj,hu,rfl⟩
    have : (j : Int) ≠ z:=fun h => e (by rw [h])
    exact ⟨j,u,hj,by simp [gdel,this,hu],rfl⟩
   ·rintro ⟨j,u,hj,hu,rfl⟩
    have : (j : Int) ≠ z:=fun h => e (by rw [h])
    simp [gdel,this] at hu
    exact ⟨j,u,hj,hu,rfl⟩
 ·by_cases e : (j : Int) = z
  ·simp [gdel,e] at hu
  ·simp [gdel,e] at hu
   rw [atKey_del_other (by simpa using e),dm_at hj hu]
theorem Mp.delH (h : Mp w b n g) {z : Int} (hz : (Lit.int .i64 z).wf = true) (ty : TypeId) :
  ∃ w',(Builtin.delete_ #[128,3] ty #[.map (some b),.int .i64 z]).run Tryz.prog w = .ok (.tuple #[]) w' /\ Mp w' b n (gdel g z) /\ Tch (fun k => k = b) w w':=by
 obtain ⟨w',hrun,r1,r2⟩:=World.ownsMap.drop h keyed3 Tryz.underlying128 (keyOf_int_mk Tryz.underlying3 hz) ty
 exact ⟨w',hrun,mp_of r1 (zog9 (r1.canon keyed3)),(Tch.of_grown r2.grown).mono (fun k _ e => by cases e; rfl)⟩
end
def kg (s : CS) (V : Nat -> Value) (n : Nat) : Option Value:=if n ∈ s.d then some (hent (s.B n).1 (V n) true) else if n ∈ s.c then some (hent (s.B n).1 (V n) false) else none
structure ChAt (X : Nat -> Prop) (w : World) (c d N : Nat) (s : CS) (mb : Nat) (av : Value) (V : Nat -> Value) : Prop where
 n2 : N <= 4096
 box : w.heap[c]? = some (.cells #[dp d,.int .i64 (s.rm : Int),.map (some mb),av] 130 (0,0))
 map : Mp w mb N (kg s V)
 ord : OwnsK w av (s.c.map Int.ofNat)
 bod : ∀ n,n ∈ s.d ∨ n ∈ s.c -> Rd .u8 w (V n) (s.B n).2
 bap : ∀ n,n ∈ s.d ∨ n ∈ s.c -> ∀ k,(V n).ownBlock = some k -> (s.B n).2 ≠ [] -> X k /\ k ≠ c /\ k ≠ mb /\ av.ownBlock ≠ some k
 ok : COk N s
 xc : X c
 xm : X mb
 xa : ∀ k,av.ownBlock = some k -> X k
 xlt : ∀ k,X k -> k < w.heap.size
def Ch (X : Nat -> Prop) (w : World) (c d N : Nat) (s : CS) : Prop:=∃ mb av V,ChAt X w c d N s mb av V
def ChTo (X : Nat -> Prop) (w w' : World) (c d N : Nat) (s : CS) : Prop:=∃ X',Ch X' w' c d N s /\ Tch X w w' /\ ∀ k,X' k -> X k ∨ w.heap.size <= k
section
variable {X : Nat -> Prop} {w w' : World} {c d N : Nat} {s : CS} {mb : Nat} {av : Value} {V : Nat -> Value}
theorem ChAt.c0 (h : ChAt X w c d N s mb av V) : w.cell? ⟨c,0,none⟩ = some (dp d):=by rw [cell_of_row w c 0 _ _ (0,0) h.box]; rfl
theorem ChAt.c1 (h : ChAt X w c d N s mb av V) : w.cell? ⟨c,1,none⟩ = some (.int .i64 (s.rm : Int)):=by rw [cell_of_row w c 1 _ _ (0,0) h.box]; rfl
theorem ChAt.c2 (h : ChAt X w c d N s mb av V) : w.cell? ⟨c,2,none⟩ = some (.map (some mb)):=by rw [cell_of_row w c 2 _ _ (0,0) h.box]; rfl
theorem ChAt.c3 (h : ChAt X w c d N s mb av V) : w.cell? ⟨c,3,none⟩ = some av:=by rw [cell_of_row w c 3 _ _ (0,0) h.box]; rfl
theorem ChAt.lt (h : ChAt X w c d N s mb av V) : c < w.heap.size:=(Array.getElem?_eq_some_iff.1 h.box).1
theorem ChAt.ne_mb (h : ChAt X w c d N s mb av V) : c ≠ mb:=fun e => h.map.notCells (by rw [<- e]; exact h.box)
theorem zer9 {w : World} {v : Value} {xs : List Int} (h : OwnsK w v xs) {k : Nat} (hk : v.ownBlock = some k) : ∃ cur,w.heap[k]? = some (.cells cur 3 (0,0)):=by
 have h' : w.ownsRow 0 3 1 v xs.length (xs.map (Value.int .i64)):=h
 rcases h'.2 with ⟨rfl,_⟩ | ⟨g,cap,cur,rfl,_,hg,_⟩
 ·cases hk
 ·cases hk
  exact ⟨cur,hg⟩
theorem ChAt.av_c (h : ChAt X w c d N s mb av V) : av.ownBlock ≠ some c:=fun e => by
 obtain ⟨cur,hg⟩:=zer9 h.ord e
 rw [h.box] at hg
 simp at hg
theorem ChAt.av_mb (h : ChAt X w c d N s mb av V) : av.ownBlock ≠ some mb:=fun e => by
 obtain ⟨cur,hg⟩:=zer9 h.ord e
 exact h.map.notCells hg
theorem ChAt.tch (h : ChAt X w c d N s mb av V) {R : Nat -> Prop} (ht : Tch R w w') (hn : ∀ k,X k -> ¬ R k) : ChAt X w' c d N s mb av V where
 n2:=h.n2
 box:=by rw [ht.block c h.lt (hn c h.xc)]; exact h.box
 map:=h.map.tch ht (hn _ h.xm)
 ord:=h.ord.tch ht (fun k hk => hn k (h.xa k hk))
 bod:=fun n hm => (h.bod n hm).tch0 ht (fun k hk h0 => hn k (h.bap n hm k hk h0).1)
 bap:=h.bap
 ok:=h.ok
 xc:=h.xc
 xm:=h.xm
 xa:=h.xa
 xlt:=fun k hk => zn1 (h.xlt k hk) ht.size
theorem ChAt.wide (h : ChAt X w c d N s mb av V) {X' : Nat -> Prop} (hx : ∀ k,X k -> X' k) (hl : ∀ k,X' k -> k < w.heap.size) : ChAt X' w c d N s mb av V:=
 ⟨h.n2,h.box,h.map,h.ord,h.bod,fun n hm k hk h0 => ⟨hx k (h.bap n hm k hk h0).1,(h.bap n hm k hk h0).2⟩,h.ok,hx _ h.xc,hx _ h.xm,fun k hk => hx k (h.xa k hk),hl⟩
theorem Ch.tch (h : Ch X w c d N s) {R : Nat -> Prop} (ht : Tch R w w') (hn : ∀ k,X k -> ¬ R k) : Ch X w' c d N s:=by
 obtain ⟨mb,av,V,h⟩:=h
 exact ⟨mb,av,V,h.tch ht hn⟩
theorem Ch.below (h : Ch X w c d N s) (hb : Below w.heap.size w w') : Ch X w' c d N s:=h.tch (R:=fun _ => False) (Tch.of_below hb) (fun _ _ e => e)
theorem Ch.to_below (h : Ch X w c d N s) (hb : Below w.heap.size w w') : ChTo X w w' c d N s:=⟨X,h.below hb,Tch.of_below hb,fun _ e => .inl e⟩
theorem Ch.lt (h : Ch X w c d N s) : ∀ k,X k -> k < w.heap.size:=by obtain ⟨_,_,_,h⟩:=h; exact h.xlt
theorem Ch.ok (h : Ch X w c d N s) : COk N s:=by obtain ⟨_,_,_,h⟩:=h; exact h.ok
theorem Ch.n2 (h : Ch X w c d N s) : N <= 4096:=by obtain ⟨_,_,_,h⟩:=h; exact h.n2
theorem ChTo.after {X0 : Nat -> Prop} {w0 : World} (ht : Tch X0 w0 w) (hx : ∀ k,X k -> X0 k ∨ w0.heap.size <= k) (h : ChTo X w w' c d N s) : ChTo X0 w0 w' c d N s:=by
 obtain ⟨X',h1,h2,h3⟩:=h
 refine ⟨X',h1,ht.trans h2 (fun k hk e => ?_),fun k hk => ?_⟩
 ·rcases hx k e with e | e
  ·exact e
  ·omega
 ·rcases h3 k hk with e | e
  ·exact hx k e
  ·exact .inr (zn2 ht.size e)
end
abbrev cp (c : Nat) : Value:=.pointer (some ⟨c,0,none⟩)
end Go.Proofs.YtjhccpijpffahaaGreat
namespace Go.Proofs.YtjhccpijpffahaaGreat
open Go.RowKit Go.Maps Go.Sort Go.Shelf
theorem zlk9 (n x : Int) (b : Nat) (W : World) (hc : W.cell? ⟨b,0,none⟩ = some (.int .i64 n)) : FnGives Tryz.prog 92 #[.pointer (some ⟨b,0,none⟩)] #[.int .i64 x] (.bool (decide (x = n))) W:=by
 show Calls Tryz.prog 92 #[.int .i64 x,.pointer (some ⟨b,0,none⟩)] W _
 go_enter Tryz.func92,Tryz.ntmps92
 go_wp2_with fail
 go_ret
 refine ⟨?_,0,rfl⟩
 congr 2
theorem zfi9 (l : List Nat) (k : Nat) : (l.map Int.ofNat).getD k 0 = ((l.getD k 0 : Nat) : Int):=by
 rw [zn3,zn3,List.getElem?_map]
 cases l[k]? <;> rfl
theorem zen9 {c : Nat} {p0 p1 p2 av : Value} {l : List Nat} (n : Int) (w : World) (hb : w.heap[c]? = some (.cells #[p0,p1,p2,av] 130 (0,0))) (ho : OwnsK w av (l.map Int.ofNat)) (hn : l.Nodup) (hl : l.length <= 100000) :
  Calls Tryz.prog 61 #[cp c,.int .i64 n] w fun e w' => e = .returned (.tuple #[]) /\ ∃ av',w'.heap[c]? = some (.cells #[p0,p1,p2,av'] 130 (0,0)) /\ OwnsK w' av' ((kwo l n).map Int.ofNat) /\ av'.ownBlock = av.ownBlock /\ Tch (fun k => k = c ∨ av.ownBlock = some k) w w':=by
 have hcl : c < w.heap.size:=(Array.getElem?_eq_some_iff.1 hb).1
 have hac : av.ownBlock ≠ some c:=fun e => by
  obtain ⟨cur,hg⟩:=zer9 ho e
  rw [hb] at hg
  simp at hg
 obtain ⟨W1,hW1⟩:=exN (w.alloc (.cells #[.int .i64 n] 3))
 have B1 : Hid (Below w.heap.size w W1):=by rw [<- hW1]; exact (Below.refl _ _).alloc (zn6 _) _
 have HB1 : Hid (W1.heap[c]? = some (.cells #[p0,p1,p2,av] 130 (0,0))):=by rw [B1.out.block c hcl]; exact hb
 have HO1 : Hid (OwnsK W1 av (l.map Int.ofNat)):=ho.below B1.out
 have c3 : W1.cell? ⟨c,3,none⟩ = some av:=by rw [cell_of_row W1 c 3 _ _ (0,0) HB1.out]; rfl
 have f3 : W1.frozen? ⟨c,3,none⟩ = false:=frozen_of_row W1 c 3 _ _ HB1.out
 have hx : W1.cell? ⟨w.heap.size,0,none⟩ = some (.int .i64 n):=by
  rw [<- hW1,cell_of_row _ w.heap.size 0 _ _ (0,0) (heap_alloc_new w _)]
  rfl
 have hs1 : W1.heap.size = w.heap.size + 1:=by rw [<- hW1]; simp
 have HI:=hideP (zsp9 92 #[.pointer (some ⟨w.heap.size,0,none⟩)] (fun x => decide (x = n)) av (l.map Int.ofNat) W1 HO1.out (enters_of Tryz.func92 (by kernel_rfl) rfl)
  (fun W x hbW => zlk9 n x w.heap.size W (by rw [Tch.cell (Tch.of_below (S:=fun _ => False) hbW) (p:=⟨w.heap.size,0,none⟩) (by rw [hs1]; simp) (fun e => e)]; exact hx)))
 have HAC : Hid (av.ownBlock ≠ some c /\ c < w.heap.size /\ W1.heap.size = w.heap.size + 1 /\ l.Nodup /\ l.length <= 100000):=⟨hac,hcl,hs1,hn,hl⟩
 have HMF : ∀ W,(Instr.makeFunc (.func 92) #[] #[.pointer (some ⟨w.heap.size,0,none⟩)]).run Tryz.prog W = .ok (.func (.func 92) #[] #[.pointer (some ⟨w.heap.size,0,none⟩)]) W:=fun W => rfl
 obtain ⟨a,m,cap,rfl⟩ : ∃ a m cap,av = .slice a m cap:=by obtain ⟨a,c,e,_⟩:=HO1.out.rd; exact ⟨_,_,_,e⟩
 clear hb ho hn hac hcl hs1 hx hl
 go_enter Tryz.func61,Tryz.ntmps61
 go_wp2_with fail
 refine HI.out.mono ?_
 rintro e w2 ⟨z,rfl,hF,q,hw2⟩
 have T2 : Hid (Tch (fun _ => False) W1 w2):=by rw [hw2]; exact ⟨rfl,rfl,rfl,zn6 _,fun _ _ _ => rfl⟩
 have HB2 : Hid (w2.heap[c]? = some (.cells #[p0,p1,p2,.slice a m cap] 130 (0,0))):=by rw [T2.out.block c (by have:=HAC.out.2.1; have:=HAC.out.2.2.1; omega) (fun e => e)]; exact HB1.out
 have HO2 : Hid (OwnsK w2 (.slice a m cap) (l.map Int.ofNat)):=HO1.out.tch T2.out (fun _ _ e => e)
 have d3 : w2.cell? ⟨c,3,none⟩ = some (.slice a m cap):=by rw [cell_of_row w2 c 3 _ _ (0,0) HB2.out]; rfl
 have B2 : Hid (Below w.heap.size w w2):=B1.out.trans (T2.out.below B1.out.size (fun _ e => e.elim))
 clear hw2 HB1 HO1 c3 f3 HMF HI hW1 B1 T2
 rcases hF with ⟨rfl,hno⟩ | ⟨k,hk,rfl,hyes,_⟩
 ·have HE : Hid (kwo l n = l):=zhg9 (fun m hm e => by
   obtain ⟨j,hj,rfl⟩:=List.getElem_of_mem hm
   have:=hno j (by simpa using hj)
   rw [zfi9,zn3,List.getElem?_eq_getElem hj] at this
   simp at this
   exact this e)
  clear hno
  go_wp2_with fail
  go_end0
  exact ⟨rfl,_,HB2.out,by rw [HE.out]; exact HO2.out,rfl,Tch.of_below B2.out⟩
 ·have hk' : k < l.length:=by simpa using hk
  have HE : Hid (kwo l n = l.eraseIdx k):=zop9 HAC.out.2.2.2.1 hk' (by rw [zfi9] at hyes; simpa using hyes)
  have HD:=hideP (zsa9 (.slice a m cap) (l.map Int.ofNat) k w2 HO2.out hk)
  have k0 : (0 : Int) <= (k : Int):=by omega
  have k1 : (k : Int) < 100000:=by have:=HAC.out.2.2.2.2; omega
  clear hyes hk hk'
  go_wp2_with fail
  refine HD.out.mono ?_
  rintro e w3 ⟨v',rfl,ho3,hv3,ht3⟩
  have HB3 : Hid (w3.heap[c]? = some (.cells #[p0,p1,p2,.slice a m cap] 130 (0,0))):=by
   rw [ht3.block c (by have:=HAC.out.2.1; have:=B2.out.size; omega) (fun e => HAC.out.1 e)]; exact HB2.out
  have e3 : w3.cell? ⟨c,3,none⟩ = some (.slice a m cap):=by rw [cell_of_row w3 c 3 _ _ (0,0) HB3.out]; rfl
  have f3 : w3.frozen? ⟨c,3,none⟩ = false:=frozen_of_row w3 c 3 _ _ HB3.out
  obtain ⟨W4,hW4⟩:=exN (w3.setCell ⟨c,3,none⟩ v')
  have HR : Hid (∃ av',W4.heap[c]? = some (.cells #[p0,p1,p2,av'] 130 (0,0)) /\ OwnsK W4 av' ((kwo l n).map Int.ofNat) /\ av'.ownBlock = (Value.slice a m cap).ownBlock /\ Tch (fun k => k = c ∨ (Value.slice a m cap).ownBlock = some k) w W4):=by
   have ts : Tch (fun k => k = c) w3 W4:=by rw [<- hW4]; exact zy9 w3 c 3 v'
   refine ⟨v',?_,?_,hv3,?_⟩
   ·rw [<- hW4,heap_setCell_same w3 c 3 _ _ _ HB3.out]; rfl
   ·rw [HE.out,List.eraseIdx_eq_take_drop_succ,List.map_append,List.map_take,List.map_drop,<- List.eraseIdx_eq_take_drop_succ]
    exact ho3.tch ts (fun k hk e => HAC.out.1 (by rw [hv3] at hk; rw [<- e]; exact hk))
   ·exact ((Tch.of_below B2.out).trans (ht3.mono (S':=fun k => k = c ∨ (Value.slice a m cap).ownBlock = some k) (fun k _ e => .inr e)) (fun _ _ e => e)).trans ts (fun k _ e => .inl e)
  obtain ⟨va,vl,vc,rfl⟩ : ∃ a l c,v' = .slice a l c:=by obtain ⟨a,c,e,_⟩:=ho3.rd; exact ⟨_,_,_,e⟩
  clear ho3 hv3 ht3 HB3 HB2 HO2 d3 HD
  go_wp2_with fail
  go_end0
  exact ⟨rfl,HR.out⟩
end Go.Proofs.YtjhccpijpffahaaGreat
namespace Go.Proofs.YtjhccpijpffahaaGreat
open Go.RowKit Go.Maps
section
variable {X : Nat -> Prop} {w w' : World} {c d N : Nat} {s s' : CS} {mb : Nat} {av av' : Value} {V V' : Nat -> Value}
theorem ChAt.turnAt (h : ChAt X w c d N s mb av V) (ht : Tch (fun k => k = c ∨ av.ownBlock = some k ∨ k = mb) w w')
  (box' : w'.heap[c]? = some (.cells #[dp d,.int .i64 (s'.rm : Int),.map (some mb),av'] 130 (0,0))) (map' : Mp w' mb N (kg s' V')) (ord' : OwnsK w' av' (s'.c.map Int.ofNat))
  (hav : ∀ k,av'.ownBlock = some k -> av.ownBlock = some k ∨ w.heap.size <= k) (ok' : COk N s')
  (hbody : ∀ n,n ∈ s'.d ∨ n ∈ s'.c -> ((n ∈ s.d ∨ n ∈ s.c) /\ V' n = V n /\ s'.B n = s.B n) ∨ (Rd .u8 w' (V' n) (s'.B n).2 /\ ∀ k,(V' n).ownBlock = some k -> (s'.B n).2 ≠ [] -> (X k ∨ w.heap.size <= k) /\ k ≠ c /\ k ≠ mb /\ av'.ownBlock ≠ some k)) : ChAt (fun k => X k ∨ (w.heap.size <= k /\ k < w'.heap.size)) w' c d N s' mb av' V':=by
 have hold : ∀ n,n ∈ s.d ∨ n ∈ s.c -> Rd .u8 w' (V n) (s.B n).2:=fun n hn => (h.bod n hn).tch0 ht (fun k hk h0 e => by
  obtain ⟨_,h1,h2,h3⟩:=h.bap n hn k hk h0
  rcases e with e | e | e
  ·exact h1 e
  ·exact h3 e
  ·exact h2 e)
 have hsz:=ht.size
 exact {
   n2:=h.n2
   box:=box'
   map:=map'
   ord:=ord'
   bod:=fun n hn => by
    rcases hbody n hn with ⟨h1,h2,h3⟩ | ⟨h1,_⟩
    ·rw [h2,h3]; exact hold n h1
    ·exact h1
   bap:=fun n hn k hk h0 => by
    rcases hbody n hn with ⟨h1,h2,h3⟩ | ⟨h1,h2⟩
    ·rw [h2] at hk
     rw [h3] at h0
     obtain ⟨q1,q2,q3,q4⟩:=h.bap n h1 k hk h0
     refine ⟨.inl q1,q2,q3,fun e => ?_⟩
     rcases hav k e with e | e
     ·exact q4 e
     ·have:=h.xlt k q1; omega
    ·obtain ⟨q1,q2⟩:=h2 k hk h0
     exact ⟨q1.imp id (fun e => ⟨e,h1.blk_lt h0 hk⟩),q2⟩
   ok:=ok'
   xc:=.inl h.xc
   xm:=.inl h.xm
   xa:=fun k hk => (hav k hk).imp (h.xa k) (fun e => ⟨e,ord'.lt k hk⟩)
   xlt:=fun k hk => by
    rcases hk with e | e
    ·have:=h.xlt k e; omega
    ·exact e.2 }
theorem ChAt.own_tch (h : ChAt X w c d N s mb av V) (ht : Tch (fun k => k = c ∨ av.ownBlock = some k ∨ k = mb) w w') : Tch X w w':=ht.mono (fun k _ e => by
 rcases e with e | e | e
 ·rw [e]; exact h.xc
 ·exact h.xa k e
 ·rw [e]; exact h.xm)
theorem ChAt.turn (h : ChAt X w c d N s mb av V) (ht : Tch (fun k => k = c ∨ av.ownBlock = some k ∨ k = mb) w w')
  (box' : w'.heap[c]? = some (.cells #[dp d,.int .i64 (s'.rm : Int),.map (some mb),av'] 130 (0,0))) (map' : Mp w' mb N (kg s' V')) (ord' : OwnsK w' av' (s'.c.map Int.ofNat))
  (hav : ∀ k,av'.ownBlock = some k -> av.ownBlock = some k ∨ w.heap.size <= k) (ok' : COk N s')
  (hbody : ∀ n,n ∈ s'.d ∨ n ∈ s'.c -> ((n ∈ s.d ∨ n ∈ s.c) /\ V' n = V n /\ s'.B n = s.B n) ∨ (Rd .u8 w' (V' n) (s'.B n).2 /\ ∀ k,(V' n).ownBlock = some k -> (s'.B n).2 ≠ [] -> (X k ∨ w.heap.size <= k) /\ k ≠ c /\ k ≠ mb /\ av'.ownBlock ≠ some k)) : ChTo X w w' c d N s':=
 ⟨_,⟨mb,av',V',h.turnAt ht box' map' ord' hav ok' hbody⟩,h.own_tch ht,fun k hk => hk.imp id (fun e => e.1)⟩
end
theorem zmy9 (s : CS) (V : Nat -> Value) (n : Int) : gdel (kg s V) n = kg (s.forget n) V:=by
 funext i
 unfold gdel kg CS.forget
 simp only [zi9]
 by_cases e : (i : Int) = n
 ·simp [e]
 ·simp [e]
theorem ziw9 {ops : Array Oper} {rest : List Oper} {o : Oper} {a : Act} {w : World} {Q : Exit -> Act -> World -> Prop} (hgd : o.guard = none) (m x : Operand) (ho : o.op = .call { callee:=.builtin .delete,args:=#[m,x],argTypes:=#[128,3] })
  (mb N : Nat) (g : Nat -> Option Value) (z : Int) (hm : a.eval m = .map (some mb)) (hx : a.eval x = .int .i64 z) (hM : Mp w mb N g) (hz : (Lit.int .i64 z).wf = true) (h : ∀ w',Mp w' mb N (gdel g z) -> Tch (fun k => k = mb) w w' -> wpList Tryz.prog ops Q rest (a.put o.dst (.tuple #[])) w') : wpList Tryz.prog ops Q (o :: rest) a w:=by
 obtain ⟨w',hr,h1,h2⟩:=hM.delH hz o.type
 refine wpList_plain hgd fun K hK => ?_
 unfold Oper.wp
 simp [execOp,ho,resolve,invoke,builtin,hm,hx,hr,Result.andThen]
 exact hK _ _ (h w' h1 h2)
theorem zha9 {X : Nat -> Prop} {c d N : Nat} {s : CS} {mb : Nat} {av : Value} {V : Nat -> Value} (n : Int) (w : World) (h : ChAt X w c d N s mb av V) (hz : (Lit.int .i64 n).wf = true) :
  Calls Tryz.prog 76 #[cp c,.int .i64 n] w fun e w' => e = .returned (.tuple #[]) /\ ∃ av',ChAt (fun k => X k ∨ (w.heap.size <= k /\ k < w'.heap.size)) w' c d N (s.forget n) mb av' V /\ Tch (fun k => k = c ∨ av.ownBlock = some k ∨ k = mb) w w':=by
 have H : Hid (ChAt X w c d N s mb av V):=h
 have HL:=hideP (zen9 n w h.box h.ord h.ok.cn (by have:=h.ok.cle; have:=h.n2; omega))
 have HZ : Hid ((Lit.int .i64 n).wf = true):=hz
 clear h hz
 go_enter Tryz.func76,Tryz.ntmps76
 go_wp2_with fail
 refine HL.out.mono ?_
 rintro e w1 ⟨rfl,av1,hb1,ho1,hv1,ht1⟩
 have HB1 : Hid (w1.heap[c]? = some (.cells #[dp d,.int .i64 (s.rm : Int),.map (some mb),av1] 130 (0,0))):=hb1
 have HO1 : Hid (OwnsK w1 av1 ((kwo s.c n).map Int.ofNat)):=ho1
 have HV1 : Hid (av1.ownBlock = av.ownBlock):=hv1
 have T1 : Hid (Tch (fun k => k = c ∨ av.ownBlock = some k) w w1):=ht1
 have M1 : Hid (Mp w1 mb N (kg s V)):=H.out.map.tch ht1 (fun e => by
  rcases e with e | e
  ·exact H.out.ne_mb e.symm
  ·exact H.out.av_mb e)
 have c2 : w1.cell? ⟨c,2,none⟩ = some (.map (some mb)):=by rw [cell_of_row w1 c 2 _ _ (0,0) hb1]; rfl
 clear hb1 ho1 hv1 ht1 HL
 go_wp2_with (with_reducible (show wpList _ _ _ (Oper.mk _ (Op.call _) _ _ _ _ :: _) _ _); refine ziw9 rfl (.tmp 10) (.tmp 11) rfl mb N (kg s V) n rfl rfl M1.out HZ.out ?_)
 intro w2 m2 t2
 have HR : Hid (∃ av',ChAt (fun k => X k ∨ (w.heap.size <= k /\ k < w2.heap.size)) w2 c d N (s.forget n) mb av' V /\ Tch (fun k => k = c ∨ av.ownBlock = some k ∨ k = mb) w w2):=by
  have TT:=(T1.out.mono (S':=fun k => k = c ∨ av.ownBlock = some k ∨ k = mb) (fun k _ e => e.imp id .inl)).trans t2 (fun k _ e => .inr (.inr e))
  refine ⟨av1,H.out.turnAt (V':=V) (av':=av1) (s':=s.forget n) TT ?_ ?_ ?_ (fun k hk => .inl (by rw [<- HV1.out]; exact hk)) (H.out.ok.forget n) (fun m hm => .inl ⟨hm.imp (fun e => (zi9.1 e).1) (fun e => (zi9.1 e).1),rfl,rfl⟩),TT⟩
  ·rw [t2.block c (Array.getElem?_eq_some_iff.1 HB1.out).1 H.out.ne_mb]; exact HB1.out
  ·rw [<- zmy9]; exact m2
  ·exact HO1.out.tch t2 (fun k hk e => H.out.av_mb (by rw [HV1.out] at hk; rw [<- e]; exact hk))
 clear m2 t2
 go_wp2_with fail
 go_end0
 exact ⟨rfl,HR.out⟩
theorem zju9 {X : Nat -> Prop} {c d N : Nat} {s : CS} (n : Int) (w : World) (hC : Ch X w c d N s) (hz : (Lit.int .i64 n).wf = true) :
  Calls Tryz.prog 76 #[cp c,.int .i64 n] w fun e w' => e = .returned (.tuple #[]) /\ ChTo X w w' c d N (s.forget n):=by
 obtain ⟨mb,av,V,h⟩:=hC
 refine (zha9 n w h hz).mono ?_
 rintro e w' ⟨rfl,av',h1,h2⟩
 exact ⟨rfl,_,⟨_,_,_,h1⟩,h.own_tch h2,fun k hk => hk.imp id (fun e => e.1)⟩
end Go.Proofs.YtjhccpijpffahaaGreat
