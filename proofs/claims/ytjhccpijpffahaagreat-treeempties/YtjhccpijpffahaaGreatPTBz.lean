import Derived.Test.YtjhccpijpffahaaGreatPTJnd
import Derived.Test.YtjhccpijpffahaaGreatPTDel1
import Derived.Test.YtjhccpijpffahaaGreatPTPs
set_option maxRecDepth 100000
set_option linter.unusedVariables false
set_option linter.unusedSimpArgs false
set_option maxHeartbeats 8000000
namespace Go.Proofs.YtjhccpijpffahaaGreat
open Go.RowKit Go.Maps Pl
theorem Tz.vok {U : Nat -> Prop} {w : World} {t c d M N : Nat} {a : AS} (H : Tz U w t c d M N a) (x : Int) (h0 : (a.V x).1 = 0) : Vk (a.V x).2:=by
 obtain ⟨fb,X,S,Y,s,D,h⟩:=H
 have hN:=h.cz.len
 have hB : By (s.getB D x).2:=by
  unfold CS.getB
  cases hk : kthere D.L.length x with
  | false => exact fun i => by simp
  | true =>
   have hx:=zo9.1 hk
   simp only [if_true]
   split
   ·rename_i hm
    exact (h.cz.ch.ok.may _ hm).2
   ·exact zok9 x (h.cz.dk.has_ok (by omega)).2
 rw [h.ok.v] at h0 ⊢
 unfold vwC at h0 ⊢
 by_cases he : s.getE D x = 0
 ·rw [he] at h0 ⊢
  cases hg : getN (s.getB D x).1 (s.getB D x).2 with
  | none => rw [vwB_no hg] at h0; exact absurd h0 (by decide)
  | some n =>
   rw [vwB_ok hg]
   unfold getN at hg
   split at hg
   ·split at hg
    ·rename_i hm
     cases hg
     exact ⟨(Bool.and_eq_true_iff.1 hm).2,rdN_sm _ hB⟩
    ·cases hg
   ·cases hg
 ·rw [zmd9 he] at h0
  exact absurd h0 he
theorem Gz.vok {H : Nat -> Prop} {w : World} {t cc d M N : Nat} {a : AS} {b : CB} {c : CH} (G : Gz H w t cc d M N a b c) (x : Int) (h0 : (a.V x).1 = 0) : Vk (a.V x).2:=by
 obtain ⟨U,vt,vg,h⟩:=G
 exact h.tz.vok x h0
theorem Gz.look {H : Nat -> Prop} {w : World} {t cc d M N : Nat} {a : AS} {b : CB} {c : CH} (G : Gz H w t cc d M N a b c) {x : Int} {lv : Nat} (h0 : (look a x lv).1 = 0) : Vk (look a x lv).2:=by
 unfold Go.Proofs.YtjhccpijpffahaaGreat.look at h0 ⊢
 split
 ·rename_i hl
  rw [if_pos hl] at h0
  exact absurd h0 (by decide)
 ·rename_i hl
  rw [if_neg hl] at h0
  exact G.vok x h0
theorem Gz.setLv {H : Nat -> Prop} {w : World} {t cc d M N : Nat} {a : AS} {b : CB} {c : CH} (G : Gz H w t cc d M N a b c) (lv : Nat) : Gz H (w.setCell ⟨b.cb,4,none⟩ (.int .i64 (lv : Int))) t cc d M N a b { c with lv:=lv } /\ Tch H w (w.setCell ⟨b.cb,4,none⟩ (.int .i64 (lv : Int))):=by
 have hcb:=G.hcb
 obtain ⟨U,vt,vg,h⟩:=G
 have tA:=tch_at w b.cb 4 (.int .i64 (lv : Int))
 refine ⟨⟨U,vt,vg,⟨h.tz.tch tA (fun k hk e => h.un b.cb (.inl rfl) (e ▸ hk)),⟨heap_setCell_same w b.cb 4 _ _ _ h.cg.box,h.cg.tk.tch tA (fun j e q => h.cg.net (q ▸ e)),h.cg.gn.tch tA (fun j e q => h.cg.neg (q ▸ e)),h.cg.ap,h.cg.wf⟩,h.un,h.hx,fun k hk => zn1 (h.hl k hk) tA.size⟩⟩,tA.mono (fun k _ e => e ▸ hcb)⟩
structure Bz (H : Nat -> Prop) (w : World) (t cc d M N : Nat) (b : CB) (a : AS) (c : CH) (W : World) (H' : Nat -> Prop) (bx : Nat) (n : Nd) (u1 u2 u3 : Value) : Prop where
 gz : Gz H' W t cc d M N a b c
 tc : Tch H w W
 hh : ∀ k,H' k -> H k ∨ w.heap.size <= k
 nb : Nb W 93 bx n.lf u1 u2 u3
 bg : w.heap.size <= bx
 bn : ¬ H' bx
 ow : Ow3 w.heap.size W n u1 u2 u3
 ap : Ap3 H' u1 u2 u3
section
variable {H H' H2 : Nat -> Prop} {w W W' : World} {t cc d M N bx : Nat} {b : CB} {a a' : AS} {c c' : CH} {n : Nd} {u1 u2 u3 : Value}
theorem Ow3.lt {B : Nat} (h : Ow3 B W n u1 u2 u3) : Ub3 W u1 u2 u3:=fun j hj => by
 rcases hj with e | e | e
 ·exact h.k.owns.lt j e
 ·exact h.v.owns.lt j e
 ·exact h.d.owns.lt j e
theorem Bz.ne (h : Bz H w t cc d M N b a c W H' bx n u1 u2 u3) : ∀ j,(u1.ownBlock = some j ∨ u2.ownBlock = some j ∨ u3.ownBlock = some j) -> j ≠ bx:=fun j hj e => by
 subst e
 rcases hj with q | q | q
 ·exact h.ow.k.ne h.nb (by decide) q
 ·exact h.ow.v.ne h.nb (by decide) q
 ·exact h.ow.d.ne h.nb (by decide) q
theorem Bz.move (h : Bz H w t cc d M N b a c W H' bx n u1 u2 u3) (g : Gz H2 W' t cc d M N a' b c') (ht : Tch H' W W') (hx : ∀ k,H2 k -> H' k ∨ W.heap.size <= k) : Bz H w t cc d M N b a' c' W' H2 bx n u1 u2 u3 where
 gz:=g
 tc:=h.tc.trans ht (fun y hy e => (h.hh y e).elim id (fun e => by omega))
 hh:=fun k hk => (hx k hk).elim (h.hh k) (fun e => .inr (zn2 h.tc.size e))
 nb:=h.nb.tch ht h.bn
 bg:=h.bg
 bn:=fun e => (hx bx e).elim h.bn (fun e => by have:=h.nb.lt; omega)
 ow:=h.ow.tch ht h.ap
 ap:=fun j hj e => (hx j e).elim (h.ap j hj) (fun e => by have:=h.ow.lt j hj; omega)
theorem Bz.moveTo (h : Bz H w t cc d M N b a c W H' bx n u1 u2 u3) (g : GzTo H' W W' t cc d M N a' b c') : ∃ H2,Bz H w t cc d M N b a' c' W' H2 bx n u1 u2 u3:=by
 obtain ⟨H2,g,ht,hx⟩:=g
 exact ⟨H2,h.move g ht hx⟩
theorem Bz.below (h : Bz H w t cc d M N b a c W H' bx n u1 u2 u3) (hb : Below W.heap.size W W') : Bz H w t cc d M N b a c W' H' bx n u1 u2 u3:=h.move (h.gz.below hb) (Tch.of_below hb) (fun _ e => .inl e)
theorem Bz.drew (h : Bz H w t cc d M N b a c W H' bx n u1 u2 u3) : Bz H w t cc d M N b a c W.drew H' bx n u1 u2 u3:=h.below (Below.refl _ _).drew
theorem Bz.key {g o l cap : Nat} (h : Bz H w t cc d M N b a c W H' bx n (.slice (some ⟨g,o,none⟩) l cap) u2 u3) {i : Nat} (hi : i < n.ks.length) (k : ByteArray) : Bz H w t cc d M N b a c (W.setCell ⟨g,o + i,none⟩ (.string k)) H' bx (setK n i k) (.slice (some ⟨g,o,none⟩) l cap) u2 u3:=by
 have tA:=tch_at W g (o + i) (.string k)
 have hg : (Value.slice (some ⟨g,o,none⟩) l cap).ownBlock = some g:=rfl
 have hgn : ¬ H' g:=h.ap g (.inl hg)
 have hgw : w.heap.size <= g:=h.ow.k.ge g hg
 have hne:=h.ne g (.inl hg)
 refine ⟨h.gz.tch tA (fun y hy e => hgn (e ▸ hy)),h.tc.trans tA (fun y hy e => by omega),h.hh,h.nb.tch tA (fun e => hne e.symm),h.bg,h.bn,⟨?_,h.ow.v.tch tA (fun j e q => h.ow.ap j (q ▸ hg) e),h.ow.d.tch tA (fun j e q => h.ow.k.apart h.ow.d (by decide) (q ▸ hg) e),h.ow.ap⟩,h.ap⟩
 have:=h.ow.k.put1 (i:=i) (by rw [zh9]; exact hi) (.string k)
 rw [<- zgk9] at this
 exact this
def Stay (R : Nat -> Prop) (w0 w : World) (H : Nat -> Prop) : Prop:=∀ k,R k -> k < w.heap.size /\ ¬ H k /\ w.heap[k]? = w0.heap[k]?
theorem Stay.on {R : Nat -> Prop} {w0 : World} (h : Stay R w0 w H) (ht : Tch H w W) (hx : ∀ k,H' k -> H k ∨ w.heap.size <= k) : Stay R w0 W H':=fun k hk => by
 obtain ⟨h1,h2,h3⟩:=h k hk
 exact ⟨zn1 h1 ht.size,fun e => (hx k e).elim h2 (fun e => by omega),by rw [ht.block k h1 h2]; exact h3⟩
end
theorem zfq9 {P : Program} {a : Act} {w : World} {Q : Exit -> Act -> World -> Prop} {o : Oper} {K : Act -> World -> Prop} {f : FuncId} {x : Operand} {xs : Array Operand} {ts : Array TypeId} {caps : Array Value} (hf : Enters P f)
  (ho : o.op = .call { callee:=.value x,args:=xs,argTypes:=ts }) (hx : a.eval x = .func (.func f) #[] caps) {vs : Array Value} (hv : xs.map a.eval = vs) {R : Ending -> World -> Prop} (hc : Calls P f (vs ++ caps) w R)
  (h : ∀ e w',R e w' -> ∃ v,e = .returned v /\ K (a.put o.dst v) w') : Oper.wp P o a w K Q:=by
 have hrun : (execOp a.eval o).run P w = .ok (.enter f (vs ++ caps)) w:=by
  have h1:=hf (vs ++ caps) w
  simp [execOp,ho,resolve,invoke,hx,hv,Deferred.ofValue,h1]
 unfold Oper.wp
 rw [hrun]
 refine hc.mono ?_
 intro e w' hR
 obtain ⟨v,rfl,hk⟩:=h e w' hR
 exact hk
theorem bl_tri : ∀ x y : List UInt8,Op.bytesLess x y = true ∨ x = y ∨ Op.bytesLess y x = true
 | [],[] => .inr (.inl rfl)
 | [],_ :: _ => .inl rfl
 | _ :: _,[] => .inr (.inr rfl)
 | a :: x,b :: y => by
  unfold Op.bytesLess
  by_cases h : a < b
  ·left; simp [h]
  ·by_cases h2 : b < a
   ·right; right; simp [h2]
   ·have : a = b:=UInt8.le_antisymm (UInt8.not_lt.1 h2) (UInt8.not_lt.1 h)
    subst this
    rcases bl_tri x y with e | e | e
    ·left; simp [e]
    ·right; left; rw [e]
    ·right; right; simp [e]
theorem zgx9 : ∀ x y : List UInt8,Op.bytesLess x y = true -> Op.bytesLess y x = false
 | [],[],h => by simp [Op.bytesLess] at h
 | [],_ :: _,_ => rfl
 | _ :: _,[],h => by simp [Op.bytesLess] at h
 | a :: x,b :: y,h => by
  unfold Op.bytesLess at h ⊢
  simp only [Bool.or_eq_true,decide_eq_true_eq,Bool.and_eq_true,beq_iff_eq] at h
  rcases h with h | ⟨rfl,h⟩
  ·have h2 : ¬ b < a:=UInt8.not_lt.2 (UInt8.le_of_lt h)
   have h3 : ¬ b = a:=fun e => by subst e; exact absurd h (UInt8.lt_irrefl _)
   simp [h2,h3]
  ·have h3:=zgx9 x y h
   simp [h3,UInt8.lt_irrefl]
theorem bl_irr (x : List UInt8) : Op.bytesLess x x = false:=by
 cases h : Op.bytesLess x x with
 | false => rfl
 | true => exact absurd (zgx9 x x h) (by rw [h]; decide)
theorem zrf9 {P : Program} (w : World) (ts : Array TypeId) (t : TypeId) (x y : ByteArray) : (Builtin.min_ ts t #[.string x,.string y]).run P w = .ok (.string (Go.Proofs.YtjhccpijpffahaaGreat.minS x y)) w:=by
 have : (if (Op.bytesLess x.toList y.toList || x.toList == y.toList) = true then x else y) = Go.Proofs.YtjhccpijpffahaaGreat.minS x y:=by
  unfold Go.Proofs.YtjhccpijpffahaaGreat.minS lts
  rcases bl_tri x.toList y.toList with h | h | h
  ·rw [h,zgx9 _ _ h]; simp
  ·rw [h,bl_irr]; simp
  ·have h2:=zgx9 _ _ h
   have h3 : (x.toList == y.toList) = false:=by
    rw [beq_eq_false_iff_ne]; intro e; rw [e,bl_irr] at h; cases h
   rw [h,h2,h3]; simp
 rw [<- this]
 simp [Builtin.min_,Builtin.min2,Op.stringOp,asBool]
structure Clo (R : Nat -> Prop) (w0 : World) (b : CB) (D : CD) : Prop where
 key : b.key = D.key
 jn : b.jn = D.jn
 ks : D.key.size <= 1000
 fn : ∃ g caps,b.fv = .func (.func g) #[] caps /\ Enters Tryz.prog g /\ ∀ (n : Nd) (u1 u2 u3 : Value) (W : World) (B : Nat),(∀ k,R k -> W.heap[k]? = w0.heap[k]?) -> (∀ k,R k -> k < B) -> B <= W.heap.size -> Ow3 B W n u1 u2 u3 -> Sm n -> n.ks.length <= 1000 -> n.vs.length = n.ks.length -> Calls Tryz.prog g (#[nod n.lf u1 u2 u3] ++ caps) W fun e w' => AtL B W (D.lf n) u1 u2 u3 e w'
 sz : ∀ n,SzT n -> n.ks.length <= 240 -> n.vs.length = n.ks.length -> SzT (D.lf n)
structure BlOk (c : CH) (f : Nat) (r : BR) : Prop where
 sz : ∀ p,p ∈ r.ps -> SzT p
 tk : r.c.tk.length <= c.tk.length + 2 * f
 gn : r.c.gn.length <= c.gn.length + 2 * f
 two : r.ps.length <= 2
 lv : r.c.lv <= 100
theorem zmi9 {R : Nat -> Prop} {w0 : World} {b : CB} {D : CD} (hC : Clo R w0 b D) {a : AS} {c : CH} {n : Nd} (hn : Vk n) (hl : n.lf = true) (x : Int) {lv f : Nat} (hlv : lv <= 17) : BlOk c (f + 1) ⟨0,piecesF (D.lf n),a,{ leaveF a c x with lv:=lv }⟩:=by
 have hc:=zar9 a c x
 exact ⟨zes9 (hC.sz n hn.sz hn.len.1 (hn.leaf hl).1),by simp only [hc.2.1]; omega,by simp only; omega,zdb9 _,by simp only; omega⟩
theorem zcs9 {a : AS} {c c' : CH} {e : Int} {f : Nat} (ht : c'.tk.length <= c.tk.length + 2 * f) (hg : c'.gn.length <= c.gn.length + 2 * f) (hl : c'.lv <= 100) : BlOk c f ⟨e,[],a,c'⟩:=⟨fun p hp => (by cases hp),ht,hg,by simp,hl⟩
theorem zob9 {o : Oper} {a : Act} {w : World} {K : Act -> World -> Prop} {Q : Exit -> Act -> World -> Prop} {x y : Operand} {p : Addr} {s : ByteArray} {u : Value} (ho : o.op = .store 9 x y) (hx : a.eval x = .pointer (some p)) (hy : a.eval y = .string s) (hc : w.cell? p = some u) (hf : w.frozen? p = false)
  (h : K (a.put o.dst undef) (w.setCell p (.string s))) : Oper.wp Tryz.prog o a w K Q:=by
 have hrun : (Instr.storeAt 9 (.pointer (some p)) (.string s)).run Tryz.prog w = .ok () (w.setCell p (.string s)):=by
  go_simp
 unfold Oper.wp execOp
 simp only [ho,hx,hy,Sem.run_bind,Sem.run_pure,Result.andThen_ok,hrun]
 exact h
theorem plc_in {n : Nd} (h : n.lf = false) (key : ByteArray) (k : Nat) (hk : 1 <= k) : plc n key k < k:=by
 induction k with
 | zero => omega
 | succ k ih =>
  unfold plc
  rw [if_neg (by rw [h]; decide)]
  split
  ·omega
  ·cases k with
   | zero => exact Nat.one_pos
   | succ k => have:=ih (by omega); omega
noncomputable def tailF (a : AS) (c : CH) (n : Nd) (i j : Nat) (ps : List Nd) : BR:=
 if (replaceF a c n i j ps).e ≠ 0 then ⟨(replaceF a c n i j ps).e,[],(replaceF a c n i j ps).a,(replaceF a c n i j ps).c⟩ else ⟨0,piecesF (replaceF a c n i j ps).n,(replaceF a c n i j ps).a,(replaceF a c n i j ps).c⟩
def lowK (n : Nd) (key : ByteArray) : Nd:=setK n (plc n key n.ks.length) (Go.Proofs.YtjhccpijpffahaaGreat.minS (kA n (plc n key n.ks.length)) key)
def jnP (d : CD) (ps : List Nd) : Prop:=d.jn = true /\ ps.length = 1 /\ W (szN (ps.getD 0 noneN) (ps.getD 0 noneN).ks.length) < 120
theorem ztz9 {d : CD} {n : Nd} {lv : Nat} {r : BR} (h : r.e ≠ 0) : upF d n lv r = ⟨r.e,[],r.a,r.c⟩:=if_pos h
theorem upF_no {d : CD} {n : Nd} {lv : Nat} {r : BR} (h : r.e = 0) (hj : ¬ jnP d r.ps) : upF d n lv r = tailF r.a r.c (lowK n d.key) (plc n d.key n.ks.length) (plc n d.key n.ks.length + 1) r.ps:=by
 unfold upF tailF lowK setK
 rw [if_neg (by simpa using h)]
 unfold jnP at hj
 simp only [if_neg hj]
 simp
theorem upF_jn {d : CD} {n : Nd} {lv : Nat} {r : BR} (h : r.e = 0) (hj : jnP d r.ps) {J : JR} (hJ : joinedF r.a r.c (lowK n d.key) (plc n d.key n.ks.length) lv (r.ps.getD 0 noneN) = J) :
  upF d n lv r = if J.e ≠ 0 then ⟨J.e,[],r.a,J.c⟩ else tailF r.a J.c (lowK n d.key) J.i J.j [J.n]:=by
 subst hJ
 unfold upF tailF lowK setK
 rw [if_neg (by simpa using h)]
 unfold jnP at hj
 simp only [if_pos hj]
theorem zmj9 {c c' : CH} {f : Nat} {a : AS} {n : Nd} {i j : Nat} {ps : List Nd} (ht : c'.tk.length <= c.tk.length + 2 * f) (hg : c'.gn.length <= c.gn.length + 2 * (f + 1)) (hl : c'.lv <= 100) (h2 : ps.length <= 2) (hs : Sm n) (hn : n.ks.length <= 240 /\ n.vs.length <= 240 /\ n.kd.length <= 240) (hp : ∀ p ∈ ps,Sm p) : BlOk c (f + 1) (tailF a c' n i j ps):=by
 have hc:=zbp9 a c' n i j ps
 unfold tailF
 split
 ·exact zcs9 (by omega) (by rw [hc.2.1]; omega) (by rw [hc.2.2]; exact hl)
 ·exact ⟨zes9 (zag9 a c' i j hs hn hp h2),by simp only; omega,by simp only; rw [hc.2.1]; omega,zdb9 _,by simp only; rw [hc.2.2]; exact hl⟩
theorem ztd9 {n : Nd} (h : Vk n) {key : ByteArray} (hk : key.size <= 1000) : Sm (lowK n key) /\ (lowK n key).ks.length <= 240 /\ (lowK n key).vs.length <= 240 /\ (lowK n key).kd.length <= 240:=by
 have:=h.len
 refine ⟨ztp9 h.sm (znh9 (h.sm.ks _) (by omega)),by unfold lowK; rw [zgg9]; exact this.1,this.2.1,this.2.2⟩
theorem Bz.apart {H H' S : Nat -> Prop} {w W W' : World} {t cc d M N bx : Nat} {b : CB} {a : AS} {c : CH} {n : Nd} {u1 u2 u3 : Value} (h : Bz H w t cc d M N b a c W H' bx n u1 u2 u3) (ht : Tch S W W') (hS : ∀ k,S k -> ¬ H' k /\ k ≠ bx /\ ¬ (u1.ownBlock = some k ∨ u2.ownBlock = some k ∨ u3.ownBlock = some k) /\ w.heap.size <= k) : Bz H w t cc d M N b a c W' H' bx n u1 u2 u3 where
 gz:=h.gz.tch ht (fun k hk e => (hS k e).1 hk)
 tc:=h.tc.trans ht (fun y hy e => by have:=(hS y e).2.2.2; omega)
 hh:=h.hh
 nb:=h.nb.tch ht (fun e => (hS bx e).2.1 rfl)
 bg:=h.bg
 bn:=h.bn
 ow:=h.ow.tch ht (fun j hj e => (hS j e).2.2.1 hj)
 ap:=h.ap
theorem RdV.off {w w' : World} {T : TypeId} {pb : Nat} {lf : Bool} {a1 a2 a3 : Option Addr} {l1 c1 l2 c2 l3 c3 : Nat} {v : Value} {cs : List Value} (h : RdV w v cs) (hN : Nb w T pb lf (.slice a1 l1 c1) (.slice a2 l2 c2) (.slice a3 l3 c3)) (hc : ∀ c ∈ cs,(∃ s,c = .string s) ∨ ∃ i,c = .int .i64 i) (ht : Tch (fun y => y = pb) w w') : RdV w' v cs:=by
 cases cs with
 | nil =>
  obtain ⟨q1,q2,q3,q4,q5,q6,q7⟩:=h
  exact ⟨q1,q2,q3,q4,q5,q6,.inl rfl⟩
 | cons c cs =>
  refine h.tch ht (fun b hb e => ?_)
  subst e
  obtain ⟨a,cap,rfl,_,_,_,h⟩:=h
  rcases h with h | ⟨b',o,rfl,hcell⟩
  ·cases h
  ·simp only [Value.ownBlock,Option.some.injEq] at hb
   subst hb
   have h1:=hcell 0 c rfl
   rw [cell_of_row w b' (o + 0) _ _ (0,0) hN] at h1
   have h2 : c ∈ [Value.bool lf,.slice a1 l1 c1,.slice a2 l2 c2,.slice a3 l3 c3]:=by
    rw [List.getElem?_toArray] at h1
    exact List.mem_of_getElem? h1
   rcases hc c List.mem_cons_self with ⟨s,rfl⟩ | ⟨i,rfl⟩ <;> simp at h2
theorem Nn.off {w w' : World} {T : TypeId} {pb : Nat} {lf : Bool} {a1 a2 a3 : Option Addr} {l1 c1 l2 c2 l3 c3 : Nat} {n : Nd} {u1 u2 u3 : Value} (h : Nn w n u1 u2 u3) (hN : Nb w T pb lf (.slice a1 l1 c1) (.slice a2 l2 c2) (.slice a3 l3 c3)) (ht : Tch (fun y => y = pb) w w') : Nn w' n u1 u2 u3:=
 ⟨h.k.off hN (fun c hc => .inl (by obtain ⟨s,_,rfl⟩:=List.mem_map.1 hc; exact ⟨_,rfl⟩)) ht,h.v.off hN (fun c hc => .inl (by obtain ⟨s,_,rfl⟩:=List.mem_map.1 hc; exact ⟨_,rfl⟩)) ht,h.d.off hN (fun c hc => .inr (by obtain ⟨s,_,rfl⟩:=List.mem_map.1 hc; exact ⟨_,rfl⟩)) ht⟩
structure WOk {σ : Type} (D : WD σ) (t wb sb : Nat) (cnt : σ -> Nat) (I : (Nat -> Prop) -> σ -> World -> Prop) : Prop where
 tch : ∀ (E : Nat -> Prop) (s : σ) (w w' : World) (S : Nat -> Prop),I E s w -> Tch S w w' -> (∀ k,E k -> ¬ S k) -> I E s w'
 lt : ∀ (E : Nat -> Prop) (s : σ) (w : World),I E s w -> ∀ k,E k -> k < w.heap.size
 kd : ∀ (s : σ) (x : Int) (n : Nd),Vk n -> ∀ k ∈ (D.st s x n).2,0 <= k /\ k <= 65535
 ln : ∀ (s : σ) (x : Int) (n : Nd),Vk n -> (D.st s x n).2.length <= 240
 ct : ∀ (s : σ) (x : Int) (n : Nd),Vk n -> cnt (D.st s x n).1 <= cnt s + 240
 fn : ∃ (g : FuncId) (caps : Array Value),Enters Tryz.prog g ∧
  (∀ (E : Nat -> Prop) (s : σ) (w : World),I E s w -> w.heap[wb]? = some (.cells #[tp t,.func (.func g) #[] caps,.bool (D.en s),.map (some sb)] 90 (0,0)) /\ E wb) ∧
  ∀ (E : Nat -> Prop) (s : σ) (x : Int) (n : Nd) (u1 u2 u3 : Value) (w : World),I E s w -> Nn w n u1 u2 u3 -> Vk n -> (∀ j,(u1.ownBlock = some j ∨ u2.ownBlock = some j ∨ u3.ownBlock = some j) -> ¬ E j) -> 0 <= x /\ x <= 65535 -> cnt s <= 15728640 →
   Calls Tryz.prog g (#[.int .i64 x,nod n.lf u1 u2 u3] ++ caps) w fun e w' => ∃ (E' : Nat -> Prop) (v : Value),e = .returned v /\ I E' (D.st s x n).1 w' /\ Tch E w w' /\ (∀ k,E' k -> E k ∨ w.heap.size <= k) /\ RdV w' v (nums (D.st s x n).2) /\ (∀ j,v.ownBlock = some j -> u3.ownBlock = some j)
structure Wkz {σ : Type} (U E : Nat -> Prop) (w : World) (t cc d M N sb : Nat) (a : AS) (cnt : σ -> Nat) (I : (Nat -> Prop) -> σ -> World -> Prop) (s : σ) (z : List Int) : Prop where
 tz : Tz U w t cc d M N a
 ie : I E s w
 mp : Mp w sb 65536 (gF (fun y => decide (y ∈ z)))
 ue : ∀ k,U k -> ¬ E k
 us : ¬ U sb
 es : ¬ E sb
 nd : z.Nodup
 zr : ∀ y ∈ z,0 <= y /\ y <= 65535
 ct : cnt s <= 240 * z.length
def WkzTo {σ : Type} (U E : Nat -> Prop) (w w' : World) (t cc d M N sb : Nat) (a : AS) (cnt : σ -> Nat) (I : (Nat -> Prop) -> σ -> World -> Prop) (s : σ) (z : List Int) : Prop:=
 ∃ U' E',Wkz U' E' w' t cc d M N sb a cnt I s z /\ Tch (fun k => U k ∨ E k ∨ k = sb) w w' /\ (∀ k,U' k -> U k ∨ w.heap.size <= k) /\ (∀ k,E' k -> E k ∨ w.heap.size <= k)
theorem zim9 : ∀ (n : Nat) (z : List Int),z.Nodup -> (∀ y ∈ z,0 <= y /\ y < (n : Int)) -> z.length <= n:=by
 intro n z hn hz
 have h1 : (z.map Int.toNat).Nodup:=by
  refine List.Pairwise.map _ (fun a b hab => ?_) (List.Pairwise.and_mem.1 hn)
  obtain ⟨ha,hb,hab⟩:=hab
  have:=hz a ha
  have:=hz b hb
  intro e
  exact hab (by omega)
 have h2 : (z.map Int.toNat).length <= (List.range n).length:=by
  refine h1.length_le_of_subset (fun k hk => ?_)
  obtain ⟨y,hy,rfl⟩:=List.mem_map.1 hk
  have:=hz y hy
  exact List.mem_range.2 (by omega)
 simpa using h2
section
variable {σ : Type} {D : WD σ} {U E U' E' : Nat -> Prop} {w w' w'' : World} {t cc d M N wb sb : Nat} {a : AS} {cnt : σ -> Nat} {I : (Nat -> Prop) -> σ -> World -> Prop} {s s' : σ} {z z' : List Int}
theorem Wkz.zlen (h : Wkz U E w t cc d M N sb a cnt I s z) : z.length <= 65536:=zim9 65536 z h.nd (fun y hy => by have:=h.zr y hy; omega)
theorem Wkz.cb (h : Wkz U E w t cc d M N sb a cnt I s z) : cnt s <= 15728640:=by have:=h.zlen; have:=h.ct; omega
theorem Wkz.slt (h : Wkz U E w t cc d M N sb a cnt I s z) : sb < w.heap.size:=h.mp.lt
theorem Wkz.tch (hO : WOk D t wb sb cnt I) (h : Wkz U E w t cc d M N sb a cnt I s z) {S : Nat -> Prop} (ht : Tch S w w') (hn : ∀ k,(U k ∨ E k ∨ k = sb) -> ¬ S k) : Wkz U E w' t cc d M N sb a cnt I s z:=
 ⟨h.tz.tch ht (fun k hk => hn k (.inl hk)),hO.tch _ _ _ _ _ h.ie ht (fun k hk => hn k (.inr (.inl hk))),h.mp.tch ht (hn sb (.inr (.inr rfl))),h.ue,h.us,h.es,h.nd,h.zr,h.ct⟩
theorem Wkz.below (hO : WOk D t wb sb cnt I) (h : Wkz U E w t cc d M N sb a cnt I s z) (hb : Below w.heap.size w w') : Wkz U E w' t cc d M N sb a cnt I s z:=h.tch hO (S:=fun _ => False) (Tch.of_below hb) (fun _ _ e => e)
theorem Wkz.tree (hO : WOk D t wb sb cnt I) (h : Wkz U E w t cc d M N sb a cnt I s z) (h1 : Tz U' w' t cc d M N a) (h2 : Tch U w w') (h3 : ∀ k,U' k -> U k ∨ w.heap.size <= k) : Wkz U' E w' t cc d M N sb a cnt I s z:=
 ⟨h1,hO.tch _ _ _ _ _ h.ie h2 (fun k hk e => h.ue k e hk),h.mp.tch h2 h.us,fun k hk e => (h3 k hk).elim (fun q => h.ue k q e) (fun q => by have:=hO.lt _ _ _ h.ie k e; omega),fun e => (h3 sb e).elim h.us (fun q => by have:=h.slt; omega),h.es,h.nd,h.zr,h.ct⟩
theorem Wkz.fun (hO : WOk D t wb sb cnt I) (h : Wkz U E w t cc d M N sb a cnt I s z) (h1 : I E' s' w') (h2 : Tch E w w') (h3 : ∀ k,E' k -> E k ∨ w.heap.size <= k) (hc : cnt s' <= 240 * z.length) : Wkz U E' w' t cc d M N sb a cnt I s' z:=
 ⟨h.tz.tch h2 (fun k hk e => h.ue k hk e),h1,h.mp.tch h2 h.es,fun k hk e => (h3 k e).elim (h.ue k hk) (fun q => by have:=h.tz.ul k hk; omega),h.us,fun e => (h3 sb e).elim h.es (fun q => by have:=h.slt; omega),h.nd,h.zr,hc⟩
theorem Wkz.seen (hO : WOk D t wb sb cnt I) (h : Wkz U E w t cc d M N sb a cnt I s z) {x : Int} (hx : x ∉ z) (hr : 0 <= x /\ x <= 65535) (h1 : Mp w' sb 65536 (gF (updI (fun y => decide (y ∈ z)) x true))) (h2 : Tch (fun k => k = sb) w w') : Wkz U E w' t cc d M N sb a cnt I s (x :: z):=by
 have e : updI (fun y => decide (y ∈ z)) x true = fun y => decide (y ∈ x :: z):=by
  funext y
  unfold updI
  by_cases q : y = x
  ·rw [if_pos q]; simp [q]
  ·rw [if_neg q]; simp [q]
 rw [e] at h1
 refine ⟨h.tz.tch h2 (fun k hk q => h.us (q ▸ hk)),hO.tch _ _ _ _ _ h.ie h2 (fun k hk q => h.es (q ▸ hk)),h1,h.ue,h.us,h.es,List.nodup_cons.2 ⟨hx,h.nd⟩,fun y hy => ?_,?_⟩
 ·rcases List.mem_cons.1 hy with rfl | hy
  ·exact hr
  ·exact h.zr y hy
 ·have:=h.ct
  simp only [List.length_cons]
  omega
end
section
variable {σ : Type} {D : WD σ} {t cc d M N wb sb : Nat} {a : AS} {cnt : σ -> Nat} {I : (Nat -> Prop) -> σ -> World -> Prop}
theorem WkzTo.bel (hO : WOk D t wb sb cnt I) {U E : Nat -> Prop} {w w' : World} {s : σ} {z : List Int} (h : Wkz U E w t cc d M N sb a cnt I s z) (hb : Below w.heap.size w w') : WkzTo U E w w' t cc d M N sb a cnt I s z:=⟨U,E,h.below hO hb,Tch.of_below hb,fun _ e => .inl e,fun _ e => .inl e⟩
def DnC (D : WD σ) (t cc d M N wb sb : Nat) (a : AS) (cnt : σ -> Nat) (I : (Nat -> Prop) -> σ -> World -> Prop) (f lv : Nat) : Prop:=
 ∀ (U E : Nat -> Prop) (w : World) (s : σ) (z : List Int) (x : Int),0 <= x /\ x <= 65535 -> Wkz U E w t cc d M N sb a cnt I s z →
  Calls Tryz.prog 77 #[Value.pointer (some ⟨wb,0,none⟩),.int .i64 x,.int .i64 (lv : Int)] w fun e w' => e = .returned (.int .i64 (downF D a f lv s z x).e) /\ WkzTo U E w w' t cc d M N sb a cnt I (downF D a f lv s z x).s (downF D a f lv s z x).z
theorem zff9 (hO : WOk D t wb sb cnt I) (f lv : Nat) (hlv : 1 <= lv /\ lv <= 17) (hrec : lv <= 16 -> DnC D t cc d M N wb sb a cnt I f (lv + 1)) : DnC D t cc d M N wb sb a cnt I (f + 1) lv:=by
 intro U E w s z x hx h
 obtain ⟨g,caps,hen,hbx,hcl⟩:=hO.fn
 obtain ⟨⟨er,n⟩,hlk⟩ : ∃ r,Hid (look a x lv = r):=⟨_,rfl⟩
 have HVK : Hid (er = 0 -> Vk n):=fun h0 => by
  have h2:=hlk.out
  unfold look at h2
  split at h2
  ·have h3 : (7 : Int) = er:=congrArg Prod.fst h2
   omega
  ·have h3:=h.tz.vok x
   rw [h2] at h3
   exact h3 h0
 have HLV : Hid (er = 0 -> lv <= 16):=fun h => by
  have h2:=hlk.out
  unfold look at h2
  by_cases q : 16 < lv
  ·rw [if_pos q] at h2
   have h3 : (7 : Int) = er:=congrArg Prod.fst h2
   omega
  ·omega
 obtain ⟨RR,hRR⟩:=exH (downF D a (f + 1) lv s z x)
 rw [hRR.out]
 have HR0 : Hid (RR = if x ∈ z then ⟨7,s,z⟩ else if er ≠ 0 then ⟨er,s,x :: z⟩ else goF D.en (downF D a f (lv + 1)) (D.st s x n).2 (D.st s x n).1 (x :: z)):=by
  show RR = _
  rw [<- hRR.out,downF,hlk.out]
 obtain ⟨bx0,ewb⟩:=hbx E s w h.ie
 have k0 : w.cell? ⟨wb,0,none⟩ = some (tp t):=by rw [cell_of_row w wb 0 _ _ (0,0) bx0]; rfl
 have k3 : w.cell? ⟨wb,3,none⟩ = some (.map (some sb)):=by rw [cell_of_row w wb 3 _ _ (0,0) bx0]; rfl
 have hxw : (Lit.int .i64 x).wf = true:=zap9 (by omega) (by omega)
 have LK:=h.mp.lookT (fun y hy => by have:=h.zr y (of_decide_eq_true hy); omega) hxw
 obtain ⟨q,hq⟩:=exH (decide (x ∈ z))
 rw [hq.out] at LK
 have HH:=hideN h
 have HO:=hideN hO
 have HEN:=hideN hen
 have HBX:=hideN hbx
 have HCT:=hideN hcl
 have HREC:=hideN hrec
 have HX:=hideN hx
 have HEW:=hideN ewb
 clear h hO hen hbx hcl hrec hx bx0 hxw ewb
 obtain ⟨W1,hW1⟩:=exN (w.alloc (.cells #[] 121))
 have b1 : Hid (Below w.heap.size w W1):=by rw [<- hW1]; exact za9 _ _
 go_enter Tryz.func77,Tryz.ntmps77
 cases q
 ·have HNI : Hid (x ∉ z):=of_decide_eq_false hq.out
  have h1:=HH.out.below HO.out b1.out
  have HM:=hideN h1.mp
  have k31 : W1.cell? ⟨wb,3,none⟩ = some (.map (some sb)):=by rw [b1.out.cell (World.block_lt_of_cell? w ⟨wb,3,none⟩ k3)]; exact k3
  have HH1:=hideN h1
  clear h1 k0
  go_wp2_with (at_mapUpdate; refine zec9 rfl (.tmp 27) (.tmp 28) (.tmp 29) rfl sb 65536 (fun y => decide (y ∈ z)) x rfl rfl rfl HM.out HX.out.1 (by have:=HX.out.2; omega) (zn6 _) ?_; intro w2 m2 t2; refine Hid.out ?_)
  refine hideN ?_
  have h2:=HH1.out.seen HO.out HNI.out HX.out m2 t2
  have HT2 : Hid (Tch (fun k => U k ∨ E k ∨ k = sb) w w2):=(Tch.of_below (S:=fun k => U k ∨ E k ∨ k = sb) b1.out).trans t2 (fun y hy e => .inr (.inr e))
  have RD:=zhp9 x lv w2 h2.tz
  rw [hlk.out] at RD
  have HRD:=hideN RD
  have HH2:=hideN h2
  have bx2:=(HBX.out E s w2 h2.ie).1
  have k02 : w2.cell? ⟨wb,0,none⟩ = some (tp t):=by rw [cell_of_row w2 wb 0 _ _ (0,0) bx2]; rfl
  have HW2 : Hid (W1.heap.size <= w2.heap.size):=t2.size
  clear RD h2 bx2 m2 t2 k3 k31 LK HM
  go_wp2_with fail
  refine HRD.out.mono ?_
  rintro e W3 ⟨v1,v2,v3,he,ho3,U3,z3,t3,h3,ap3⟩
  have he' : e = .returned (.tuple #[nod n.lf v1 v2 v3,.int .i64 er]):=he
  have ho3 : Ow3 w2.heap.size W3 n v1 v2 v3:=ho3
  subst he'
  clear he HRD
  have H3:=HH2.out.tree HO.out z3 t3 h3
  have T3 : Tch (fun k => U k ∨ E k ∨ k = sb) w W3:=HT2.out.trans t3 (fun y hy e => .inl e)
  obtain ⟨a1,c1,a2,c2,a3,c3,rfl,rfl,rfl,_,_,_,_⟩:=ho3.nn.out
  obtain ⟨L1,hL1⟩:=exH n.ks.length
  obtain ⟨L2,hL2⟩:=exH n.vs.length
  obtain ⟨L3,hL3⟩:=exH n.kd.length
  obtain ⟨lf,hlf⟩:=exH n.lf
  rw [hL1.out,hL2.out,hL3.out] at ho3 ap3
  rw [hL1.out,hL2.out,hL3.out,hlf.out]
  unfold nod
  obtain ⟨W4,hW4⟩:=exN (W3.alloc (.cells #[.bool false,.slice none 0 0,.slice none 0 0,.slice none 0 0] 93))
  have NB : Nb W4 93 W3.heap.size false (.slice none 0 0) (.slice none 0 0) (.slice none 0 0):=by rw [<- hW4]; exact nb_new _ _ _ _ _ _
  have b4 : Below W3.heap.size W3 W4:=by rw [<- hW4]; exact za9 _ _
  obtain ⟨W5,hW5⟩:=exN ((((W4.setCell ⟨W3.heap.size,0,none⟩ (.bool lf)).setCell ⟨W3.heap.size,1,none⟩ (.slice a1 L1 c1)).setCell ⟨W3.heap.size,2,none⟩ (.slice a2 L2 c2)).setCell ⟨W3.heap.size,3,none⟩ (.slice a3 L3 c3))
  have NC : Nb W5 93 W3.heap.size lf (.slice a1 L1 c1) (.slice a2 L2 c2) (.slice a3 L3 c3):=by rw [<- hW5]; exact NB.all _ _ _ _
  have t5 : Tch (fun y => y = W3.heap.size) W4 W5:=by rw [<- hW5]; exact zg9 _ _ _ _ _ _
  have t35 : Tch (fun _ => False) W3 W5:=(Tch.of_below b4).trans t5 (fun y hy e => by omega)
  have H5:=H3.tch HO.out t35 (fun _ _ e => e)
  have T5 : Tch (fun k => U k ∨ E k ∨ k = sb) w W5:=T3.trans t35 (fun _ _ e => e.elim)
  have hU3 : ∀ k,U3 k -> U k ∨ w.heap.size <= k:=fun k hk => (h3 k hk).imp id (fun q => by have:=HT2.out.size; omega)
  have ho5:=ho3.tch t35 (fun _ _ e => e)
  have HH5:=hideN H5
  have HT5:=hideN T5
  have HU3:=hideN hU3
  have HOW5:=hideN ho5
  have HAP3:=hideN ap3
  have HNC:=hideN NC
  have HSZ5 : Hid (w.heap.size <= w2.heap.size /\ w2.heap.size <= W3.heap.size /\ W3.heap.size < W5.heap.size):=⟨HT2.out.size,t3.size,NC.lt⟩
  have p0:=NB.c0
  have p1:=NB.c1
  have p2:=NB.c2
  have p3:=NB.c3
  have f0:=NB.fz 0
  have f1:=NB.fz 1
  have f2:=NB.fz 2
  have f3:=NB.fz 3
  clear NB b4 t5 t35 H3 T3 H5 T5 hU3 ho5 ho3 ap3 NC z3 t3 h3 HH1 HH2 k02
  by_cases h0 : er = 0
  ·subst h0
   have HV:=hideN (HVK.out rfl)
   have HL16:=hideN (HLV.out rfl)
   obtain ⟨ks,hks⟩:=exH ((D.st s x n).2)
   obtain ⟨s1,hs1⟩:=exH ((D.st s x n).1)
   obtain ⟨kl,hkl⟩:=exH ks.length
   have HRR : Hid (RR = goF D.en (downF D a f (lv + 1)) ks s1 (x :: z)):=by
    show RR = _
    rw [HR0.out,if_neg HNI.out,if_neg (by simp),hks.out,hs1.out]
   have HKS : Hid (∀ y ∈ ks,0 <= y /\ y <= 65535):=by
    have:=HO.out.kd s x n HV.out
    rw [hks.out] at this
    exact this
   have hkl24 : kl <= 240:=by
    have:=HO.out.ln s x n HV.out
    rw [hks.out,hkl.out] at this
    exact this
   have H5d:=HH5.out.below HO.out (Below.refl _ _).drew
   have O5d:=HOW5.out.tch (Tch.of_below (S:=fun _ => False) (Below.refl W5.heap.size W5).drew) (fun _ _ e => e)
   have N5d : Nb W5.drew 93 W3.heap.size lf (.slice a1 L1 c1) (.slice a2 L2 c2) (.slice a3 L3 c3):=HNC.out.below (Below.refl _ _).drew
   have bx5:=(HBX.out E s W5.drew H5d.ie).1
   have w15 : W5.drew.cell? ⟨wb,1,none⟩ = some (.func (.func g) #[] caps):=by rw [cell_of_row W5.drew wb 1 _ _ (0,0) bx5]; rfl
   have hS : W5.drew.cell? ⟨wb,1,none⟩ = some (.func (.func g) #[] caps) /\ Nb W5.drew 93 W3.heap.size lf (.slice a1 L1 c1) (.slice a2 L2 c2) (.slice a3 L3 c3):=⟨w15,N5d⟩
   have elt : ∀ k,E k -> k < w.heap.size:=HO.out.lt _ _ _ HH.out.ie
   have nE : ∀ j,((Value.slice a1 L1 c1).ownBlock = some j ∨ (Value.slice a2 L2 c2).ownBlock = some j ∨ (Value.slice a3 L3 c3).ownBlock = some j) -> ¬ E j:=fun j hj e => by
    have:=O5d.fr j hj
    have:=elt j e
    have:=HSZ5.out
    omega
   have CL:=HCT.out E s x n (.slice a1 L1 c1) (.slice a2 L2 c2) (.slice a3 L3 c3) W5.drew H5d.ie O5d.nn HV.out nE HX.out HH.out.cb
   rw [hlf.out,hs1.out,hks.out] at CL
   have HCL:=hideN CL
   have HCN : Hid (cnt s1 <= 240 * (x :: z).length):=by
    have h1:=HO.out.ct s x n HV.out
    have h2:=HH.out.ct
    rw [hs1.out] at h1
    show _ <= _
    simp only [List.length_cons]
    omega
   have HST6 : Hid (∀ (W6 : World) (E6 : Nat -> Prop) (v6 : Value),I E6 s1 W6 -> Tch E W5.drew W6 -> (∀ k,E6 k -> E k ∨ W5.drew.heap.size <= k) -> RdV W6 v6 (nums ks) -> (∀ j,v6.ownBlock = some j -> (Value.slice a3 L3 c3).ownBlock = some j) →
     (W6.cell? ⟨wb,1,none⟩ = some (.func (.func g) #[] caps) /\ Nb W6 93 W3.heap.size lf (.slice a1 L1 c1) (.slice a2 L2 c2) (.slice a3 L3 c3)) ∧
     (Wkz U3 E6 W6 t cc d M N sb a cnt I s1 (x :: z) /\ Tch (fun y => U y ∨ E y ∨ y = sb) w W6 /\ (∀ y,U3 y -> U y ∨ w.heap.size <= y) /\ (∀ y,E6 y -> E y ∨ w.heap.size <= y) /\ RdV W6 v6 (nums ks) /\ (∀ j,v6.ownBlock = some j -> ¬ (U3 j ∨ E6 j ∨ j = sb) /\ j < W6.heap.size) /\ RR = goF D.en (downF D a f (lv + 1)) (ks.drop 0) s1 (x :: z))):=by
    intro W6 E6 v6 i6 t6 h6 r6 o6
    have H5d:=HH5.out.below HO.out (Below.refl _ _).drew
    have H6:=H5d.fun HO.out i6 t6 h6 HCN.out
    have bx6:=(HBX.out E6 s1 W6 i6).1
    have hz5:=HSZ5.out
    have e5 : W5.drew.heap.size = W5.heap.size:=rfl
    have t6s:=t6.size
    refine ⟨⟨by rw [cell_of_row W6 wb 1 _ _ (0,0) bx6]; rfl,hS.2.tch t6 (fun e => by have:=elt _ e; omega)⟩,H6,(HT5.out.trans (Tch.of_below (S:=fun y => U y ∨ E y ∨ y = sb) (Below.refl W5.heap.size W5).drew) (fun _ _ e => e)).trans t6 (fun y hy e => .inr (.inl e)),HU3.out,fun y hy => (h6 y hy).imp id (fun q => by omega),r6,fun j hj => ?_,by rw [List.drop_zero]; exact HRR.out⟩
    have hj3:=o6 j hj
    have q1:=O5d.fr j (.inr (.inr hj3))
    have q2:=O5d.lt j (.inr (.inr hj3))
    have q3:=HAP3.out j (.inr (.inr hj3))
    have q4:=nE j (.inr (.inr hj3))
    have q5:=HH.out.slt
    refine ⟨fun q => ?_,by omega⟩
    rcases q with q | q | q
    ·exact q3 q
    ·exact (h6 j q).elim q4 (fun q => by omega)
    ·omega
   clear H5d O5d N5d bx5 w15 elt nE CL
   go_wp2_with fail
   try rw [hW5]
   refine wp_region_held (S:=fun w' => w'.cell? ⟨wb,1,none⟩ = some (.func (.func g) #[] caps) /\ Nb w' 93 W3.heap.size lf (.slice a1 L1 c1) (.slice a2 L2 c2) (.slice a3 L3 c3)) (by kernel_rfl) ?_
   refine tkT 0 (some 43) (.move (.tmp 0)) (Value.pointer (some ⟨wb,0,none⟩)) (by rintro o ho w' ⟨z1,z2⟩; go_simp) hS ?_
   simp only [Act.put,qa,qb,qc]
   refine tkT 1 (some 44) (.nilCheck (.tmp 43)) (Value.pointer (some ⟨wb,0,none⟩)) (by rintro o ho w' ⟨z1,z2⟩; go_simp) hS ?_
   simp only [Act.put,qa,qb,qc]
   refine tkT 2 (some 45) (.fieldAddr 90 (.tmp 44) 1) (Value.pointer (some ⟨wb,1,none⟩)) (by rintro o ho w' ⟨z1,z2⟩; go_simp) hS ?_
   simp only [Act.put,qa,qb,qc]
   refine tkT 3 (some 46) (.load 87 (.tmp 45)) (Value.func (.func g) #[] caps) (by rintro o ho w' ⟨z1,z2⟩; go_simp) hS ?_
   simp only [Act.put,qa,qb,qc]
   refine tkT 4 (some 47) (.move (.tmp 1)) (Value.int .i64 x) (by rintro o ho w' ⟨z1,z2⟩; go_simp) hS ?_
   simp only [Act.put,qa,qb,qc]
   refine tkT 5 (some 48) (.load 93 (.tmp 9)) (nod lf (.slice a1 L1 c1) (.slice a2 L2 c2) (.slice a3 L3 c3)) ?hy hS ?_
   case hy =>
    rintro o ho w' ⟨z1,z2⟩
    have q0:=z2.c0; have q1:=z2.c1; have q2:=z2.c2; have q3:=z2.c3
    unfold nod
    go_simp
   simp only [Act.put,qa,qb,qc]
   refine tkT 8 (some 51) (.move (.const (.int .i64 0))) (Value.int .i64 0) (by rintro o ho w' ⟨z1,z2⟩; go_simp) hS ?_
   simp only [Act.put,qa,qb,qc]
   refine rdT 6 (some 49) (.call { callee:=.value (.tmp 46),args:=#[.tmp 47,.tmp 48],argTypes:=#[3,93] }) ?_
   rintro o K hd ho hg hK
   refine zfq9 HEN.out ho (caps:=caps) (by rfl) (vs:=#[.int .i64 x,nod lf (.slice a1 L1 c1) (.slice a2 L2 c2) (.slice a3 L3 c3)]) (by kernel_rfl) HCL.out ?_
   rintro e W6 ⟨E6,v6,rfl,i6,t6,h6,r6,o6⟩
   refine ⟨_,rfl,?_⟩
   rw [hd]
   obtain ⟨hS6,HX6⟩:=HST6.out W6 E6 v6 i6 t6 h6 r6 o6
   clear hS
   have hS:=hS6
   obtain ⟨va,vc,rfl⟩:=r6.long
   rw [zn9,hkl.out] at HX6 ⊢
   refine hK _ _ hS ?_
   have HX6':=hideN HX6
   clear ho hd hg hK i6 t6 h6 r6 o6 HX6
   simp only [Act.put,qa,qb,qc]
   refine tkT 7 (some 50) (.call { callee:=.builtin .len,args:=#[.tmp 49],argTypes:=#[56] }) (Value.int .i64 (kl : Int)) (by rintro o ho w' ⟨z1,z2⟩; go_simp) hS ?_
   simp only [Act.put,qa,qb,qc]
   refine wpAnyH_done (by kernel_rfl) ?_ _
   clear hS hS6
   go_wp2_with fail
   go_loopw [51] (fun kv wr => ∃ (k : Nat) (U' E' : Nat -> Prop) (s' : σ) (z' : List Int),k <= kl /\ kv = .int .i64 k /\ Hid (Wkz U' E' wr t cc d M N sb a cnt I s' z' /\ Tch (fun y => U y ∨ E y ∨ y = sb) w wr /\ (∀ y,U' y -> U y ∨ w.heap.size <= y) /\ (∀ y,E' y -> E y ∨ w.heap.size <= y) /\ RdV wr (.slice va kl vc) (nums ks) /\ (∀ j,(Value.slice va kl vc).ownBlock = some j -> ¬ (U' j ∨ E' j ∨ j = sb) /\ j < wr.heap.size) /\ RR = goF D.en (downF D a f (lv + 1)) (ks.drop k) s' z')) (fun kv _ => kl - (intOf kv).toNat)
   case atStart => exact ⟨0,_,_,_,_,zn7 _,rfl,HX6'⟩
   case round =>
    clear HX6'
    obtain ⟨k,U7,E7,s7,z7,hkl',rfl,HI⟩:=hrel
    obtain ⟨wz,hwz⟩:=exH wr
    have hI:=HI.out
    have bx7:=(HBX.out E7 s7 wr hI.1.ie).1
    obtain ⟨en,hen'⟩ : ∃ q,Hid (D.en s7 = q):=⟨_,rfl⟩
    rw [hen'.out] at bx7
    have w2 : wr.cell? ⟨wb,2,none⟩ = some (.bool en):=by rw [cell_of_row wr wb 2 _ _ (0,0) bx7]; rfl
    by_cases hkt : k < kl
    ·have ht1 : decide ((k : Int) < (kl : Int)) = true:=by rw [decide_eq_true_iff]; omega
     have hkk : k < ks.length:=by rw [hkl.out]; exact hkt
     obtain ⟨vb,vo,rfl,ck⟩:=hI.2.2.2.2.1.at (i:=k) (c:=.int .i64 (ks[k])) (by rw [nums,List.getElem?_map,List.getElem?_eq_getElem hkk]; rfl)
     obtain ⟨kid,hkid⟩ : ∃ q,q = ks[k]:=⟨_,rfl⟩
     rw [<- hkid] at ck
     have HKD : Hid (0 <= kid /\ kid <= 65535):=by
      have:=HKS.out (ks[k]) (List.getElem_mem hkk)
      rw [<- hkid] at this
      exact this
     have HDR : Hid (ks.drop k = kid :: ks.drop (k + 1)):=by show _ = _; rw [hkid]; exact List.drop_eq_getElem_cons hkk
     clear hkid
     have i0 : (0 : Int) <= (k : Int):=by omega
     have i1 : (k : Int) < (kl : Int):=by omega
     cases en
     ·have REC:=HREC.out HL16.out U7 E7 wr s7 z7 kid HKD.out hI.1
      obtain ⟨r,hr⟩:=exH (downF D a f (lv + 1) s7 z7 kid)
      rw [hr.out] at REC
      have HRR : Hid (RR = if r.e ≠ 0 then r else goF D.en (downF D a f (lv + 1)) (ks.drop (k + 1)) r.s r.z):=by
       show RR = _
       rw [hI.2.2.2.2.2.2,HDR.out,goF,hen'.out,if_neg (by decide),hr.out]
      have HRC:=hideN REC
      have HLV1 : Hid (IntKind.i64.wrap ((lv : Int) + 1) = ((lv + 1 : Nat) : Int) /\ wrap64 ((lv : Int) + 1) = ((lv + 1 : Nat) : Int)):=⟨wk_nat (by omega) (by omega),zs9 (by omega) (by omega)⟩
      clear REC hI bx7 hkk
      have wl1:=HLV1.out.1
      have wl2:=HLV1.out.2
      go_wp2_with fail
      clear wl1 wl2
      refine HRC.out.mono ?_
      rintro e W9 ⟨rfl,U9,E9,z9,t9,u9,e9⟩
      obtain ⟨re,hre⟩:=exH r.e
      rw [hre.out]
      have hI:=HI.out
      have hsz:=hI.2.1.size
      have T9 : Tch (fun y => U y ∨ E y ∨ y = sb) w W9:=hI.2.1.trans t9 (fun y hy q => by
       rcases q with q | q | q
       ·exact (hI.2.2.1 y q).elim .inl (fun q => by omega)
       ·exact (hI.2.2.2.1 y q).elim (fun q => .inr (.inl q)) (fun q => by omega)
       ·exact .inr (.inr q))
      have U9' : ∀ y,U9 y -> U y ∨ w.heap.size <= y:=fun y hy => (u9 y hy).elim (hI.2.2.1 y) (fun q => .inr (by omega))
      have E9' : ∀ y,E9 y -> E y ∨ w.heap.size <= y:=fun y hy => (e9 y hy).elim (hI.2.2.2.1 y) (fun q => .inr (by omega))
      have hap:=hI.2.2.2.2.2.1
      have R9 : RdV W9 (.slice (some ⟨vb,vo,none⟩) kl vc) (nums ks):=hI.2.2.2.2.1.tch t9 (fun j hj => (hap j hj).1)
      have hs9:=t9.size
      have A9 : ∀ j,(Value.slice (some ⟨vb,vo,none⟩) kl vc).ownBlock = some j -> ¬ (U9 j ∨ E9 j ∨ j = sb) /\ j < W9.heap.size:=fun j hj => by
       obtain ⟨q1,q2⟩:=hap j hj
       refine ⟨fun q => ?_,by omega⟩
       rcases q with q | q | q
       ·exact (u9 j q).elim (fun q => q1 (.inl q)) (fun q => by omega)
       ·exact (e9 j q).elim (fun q => q1 (.inr (.inl q))) (fun q => by omega)
       ·exact q1 (.inr (.inr q))
      have HZ9:=hideN z9
      have HT9:=hideN T9
      have HU9:=hideN U9'
      have HE9:=hideN E9'
      have HR9:=hideN R9
      have HA9:=hideN A9
      clear hI hsz T9 U9' E9' hap R9 hs9 A9 z9 t9 u9 e9 ck w2
      by_cases hre0 : re = 0
      ·subst hre0
       have HRR2 : Hid (RR = goF D.en (downF D a f (lv + 1)) (ks.drop (k + 1)) r.s r.z):=by
        show RR = _
        rw [HRR.out,if_neg (by rw [hre.out]; simp)]
       go_wp2_with fail
       first
        | exact ⟨⟨k + 1,U9,E9,r.s,r.z,by omega,by first | rfl | go_num,⟨HZ9.out,HT9.out,HU9.out,HE9.out,HR9.out,HA9.out,HRR2.out⟩⟩,by simp [intOf]; omega⟩
        | (go_roundw
           case rel => exact ⟨k + 1,U9,E9,r.s,r.z,by omega,by first | rfl | go_num,⟨HZ9.out,HT9.out,HU9.out,HE9.out,HR9.out,HA9.out,HRR2.out⟩⟩
           case measure => simp [intOf]; omega)
      ·have df1 : (re == 0) = false:=by rw [beq_eq_false_iff_ne]; exact hre0
       have df2 : (re != 0) = true:=by rw [bne,df1]; rfl
       have HRR2 : Hid (RR = r):=by
        show RR = _
        rw [HRR.out,if_pos (by rw [hre.out]; exact hre0)]
       clear hre0
       go_wp2_with fail
       go_ret
       rw [HRR2.out,hre.out]
       exact ⟨rfl,U9,E9,HZ9.out,HT9.out,HU9.out,HE9.out⟩
     ·have HRR : Hid (RR = ⟨0,s7,z7⟩):=by
       show RR = _
       rw [hI.2.2.2.2.2.2,HDR.out,goF,hen'.out,if_pos rfl]
      clear hI bx7 hkk
      go_wp2_with fail
      go_ret
      rw [HRR.out]
      exact ⟨rfl,U7,E7,HI.out.1,HI.out.2.1,HI.out.2.2.1,HI.out.2.2.2.1⟩
    ·have ht1 : decide ((k : Int) < (kl : Int)) = false:=by rw [zn4]; omega
     have ht2 : decide (k < kl) = false:=decide_eq_false hkt
     have HRR : Hid (RR = ⟨0,s7,z7⟩):=by
      show RR = _
      rw [hI.2.2.2.2.2.2,List.drop_of_length_le (by rw [hkl.out]; omega),goF]
     clear hI bx7
     go_wp2_with fail
     go_ret
     rw [HRR.out]
     exact ⟨rfl,U7,E7,HI.out.1,HI.out.2.1,HI.out.2.2.1,HI.out.2.2.2.1⟩
  ·have de1 : (er == 0) = false:=by rw [beq_eq_false_iff_ne]; exact h0
   have de2 : (er != 0) = true:=by rw [bne,de1]; rfl
   have HRR : Hid (RR = ⟨er,s,x :: z⟩):=by
    show RR = _
    rw [HR0.out,if_neg HNI.out,if_pos h0]
   clear h0
   go_wp2_with fail
   try rw [hW5]
   go_ret
   rw [HRR.out]
   exact ⟨rfl,U3,E,HH5.out,HT5.out,HU3.out,fun _ e => .inl e⟩
 ·have HIN : Hid (x ∈ z):=hideN (of_decide_eq_true (p:=x ∈ z) hq.out)
  have HRR : Hid (RR = ⟨7,s,z⟩):=by
   show RR = _
   rw [HR0.out,if_pos HIN.out]
  clear k0
  go_wp2_with fail
  go_ret
  rw [HRR.out]
  exact ⟨rfl,WkzTo.bel HO.out HH.out (by (try rw [hW1]); exact b1.out)⟩
end
section
variable {σ : Type} {D : WD σ} {t cc d M N wb sb : Nat} {a : AS} {cnt : σ -> Nat}
theorem zjp9 (D : WD σ) (a : AS) (s : σ) (z : List Int) (x : Int) : downF D a 1 17 s z x = downF D a 0 17 s z x:=by
 rw [downF,downF]
 rfl
theorem zgz9 {I : (Nat -> Prop) -> σ -> World -> Prop} (hO : WOk D t wb sb cnt I) : ∀ (f lv : Nat),f + lv = 17 -> 1 <= lv -> DnC D t cc d M N wb sb a cnt I f lv
 | 0,lv,h,h1 => by
  obtain rfl : lv = 17:=by omega
  intro U E w s z x hx h
  have h2:=zff9 (cc:=cc) (d:=d) (M:=M) (N:=N) (a:=a) hO 0 17 ⟨by omega,by omega⟩ (fun e => by omega) U E w s z x hx h
  rw [zjp9] at h2
  exact h2
 | f + 1,lv,h,h1 => zff9 hO f lv ⟨h1,by omega⟩ (fun _ => zgz9 hO f (lv + 1) (by omega) (by omega))
def FrT (U E : Nat -> Prop) (w w' : World) (t cc d M N : Nat) (a : AS) (J : Option Nat -> (Nat -> Prop) -> σ -> World -> Prop) (s : σ) : Prop:=
 ∃ U' E' m,Tz U' w' t cc d M N a /\ J m E' s w' /\ Tch (fun k => U k ∨ E k) w w' /\ (∀ k,U' k -> U k ∨ w.heap.size <= k) /\ (∀ k,E' k -> E k ∨ w.heap.size <= k) /\ (∀ k,U' k -> ¬ E' k)
theorem zmp9 (J : Option Nat -> (Nat -> Prop) -> σ -> World -> Prop) (hO : ∀ sb,WOk D t wb sb cnt (J (some sb))) (hset : ∀ E s w sb,J none E s w -> J (some sb) E s (w.setCell ⟨wb,3,none⟩ (.map (some sb))))
  (htch : ∀ (E : Nat -> Prop) (s : σ) (w w' : World) (S : Nat -> Prop),J none E s w -> Tch S w w' -> (∀ k,E k -> ¬ S k) -> J none E s w')
  (hbox : ∀ E s w,J none E s w -> (∃ v1 v2 v0,w.heap[wb]? = some (.cells #[v0,v1,v2,.map none] 90 (0,0))) /\ E wb /\ ∀ k,E k -> k < w.heap.size)
  (x : Int) (hx : 0 <= x /\ x <= 65535) (U E : Nat -> Prop) (w : World) (s : σ) (hT : Tz U w t cc d M N a) (hJ : J none E s w) (hd : ∀ k,U k -> ¬ E k) (hc : cnt s = 0) :
  Calls Tryz.prog 44 #[.pointer (some ⟨wb,0,none⟩),.int .i64 x] w fun e w' => e = .returned (.int .i64 (fromF D a s x).e) /\ FrT U E w w' t cc d M N a J (fromF D a s x).s /\ cnt (fromF D a s x).s <= 15728640:=by
 obtain ⟨⟨v1,v2,v0,bx⟩,ewb,elt⟩:=hbox E s w hJ
 by_cases hx0 : x = 0
 ·subst hx0
  have HF : Hid (FrT U E w w t cc d M N a J (fromF D a s 0).s):=⟨U,E,none,hT,hJ,Tch.refl _ _,fun _ e => .inl e,fun _ e => .inl e,hd⟩
  have HE : Hid ((fromF D a s 0).e = 0):=rfl
  have HCN : Hid (cnt (fromF D a s 0).s <= 15728640):=by show cnt s <= _; rw [hc]; exact zn7 _
  rw [HE.out]
  clear hO hset htch hbox hT hJ hd hc bx ewb elt hx
  go_enter Tryz.func44,Tryz.ntmps44
  go_wp2_with fail
  go_ret
  exact ⟨rfl,HF.out,HCN.out⟩
 ·have HR : Hid (fromF D a s x = downF D a 16 1 s [] x):=if_neg hx0
  obtain ⟨W1,hW1⟩:=exN (w.alloc (.map #[] 0))
  have b1 : Below w.heap.size w W1:=by rw [<- hW1]; exact za9 _ _
  have M1 : Mp W1 w.heap.size 65536 (fun _ => none):=by rw [<- hW1]; exact mp_of (World.ownsMap_made w _ _ _) (by rw [zeh9 (fun _ _ => rfl)])
  have M1' : Mp W1 w.heap.size 65536 (gF (fun y => decide (y ∈ ([] : List Int)))):=M1.congr (fun i _ => by simp [gF])
  have J1:=htch E s w W1 (fun _ => False) hJ (Tch.of_below b1) (fun _ _ e => e)
  have bx1 : W1.heap[wb]? = some (.cells #[v0,v1,v2,.map none] 90 (0,0)):=by rw [b1.block wb (elt wb ewb)]; exact bx
  obtain ⟨W2,hW2⟩:=exN (W1.setCell ⟨wb,3,none⟩ (.map (some w.heap.size)))
  have J2:=hset E s W1 w.heap.size J1
  rw [hW2] at J2
  have t2 : Tch (fun y => y = wb) W1 W2:=by rw [<- hW2]; exact tch_at _ _ _ _
  have hwl:=elt wb ewb
  have Z2 : Wkz U E W2 t cc d M N w.heap.size a cnt (J (some w.heap.size)) s []:=⟨(hT.below b1).tch t2 (fun k hk e => hd k hk (e ▸ ewb)),J2,M1'.tch t2 (by omega),hd,fun e => by have:=hT.ul _ e; omega,fun e => by have:=elt _ e; omega,List.nodup_nil,fun y hy => (by cases hy),by rw [hc]; exact zn7 _⟩
  have T2 : Tch (fun k => U k ∨ E k) w W2:=(Tch.of_below (S:=fun k => U k ∨ E k) b1).trans t2 (fun y hy e => .inr (e ▸ ewb))
  have DN:=zgz9 (cc:=cc) (d:=d) (M:=M) (N:=N) (a:=a) (hO w.heap.size) 16 1 rfl (zn6 _) U E W2 s [] x hx Z2
  rw [<- HR.out,show ((1 : Nat) : Int) = 1 from rfl] at DN
  obtain ⟨r,hr⟩:=exH (fromF D a s x)
  rw [hr.out] at DN ⊢
  have HDN:=hideN DN
  have HT2:=hideN T2
  have de1 : (x == 0) = false:=by rw [beq_eq_false_iff_ne]; exact hx0
  have de2 : decide (x = 0) = false:=by rw [zn4]; exact hx0
  have c3 : W1.cell? ⟨wb,3,none⟩ = some (.map none):=by rw [cell_of_row W1 wb 3 _ _ (0,0) bx1]; rfl
  have f3 : W1.frozen? ⟨wb,3,none⟩ = false:=frozen_of_row W1 wb 3 _ _ bx1
  have hmm:=@run_makeMap Tryz.prog
  clear hO hset htch hbox hT hJ hd hc bx ewb elt hx hx0 b1 M1 M1' J1 bx1 J2 t2 hwl Z2 T2 DN
  go_enter Tryz.func44,Tryz.ntmps44
  go_wp2_with fail
  try rw [hW2]
  refine HDN.out.mono ?_
  rintro e W3 ⟨rfl,U3,E3,z3,t3,u3,e3⟩
  have HF : Hid (FrT U E w W3 t cc d M N a J r.s):=by
   have hs:=HT2.out.size
   have hs3:=t3.size
   refine ⟨U3,E3,_,z3.tz,z3.ie,HT2.out.trans t3 (fun y hy e => ?_),fun k hk => (u3 k hk).imp id (fun e => by omega),fun k hk => (e3 k hk).imp id (fun e => by omega),z3.ue⟩
   rcases e with e | e | e
   ·exact .inl e
   ·exact .inr e
   ·omega
  have HCN:=hideN z3.cb
  clear z3 t3 u3 e3
  go_wp2_with fail
  go_ret
  exact ⟨rfl,HF.out,HCN.out⟩
theorem FrT.out {U E : Nat -> Prop} {w W4 w' : World} {J : Option Nat -> (Nat -> Prop) -> σ -> World -> Prop} {s : σ} (hb : Below w.heap.size w W4) (hE : ∀ y,E y -> w.heap.size <= y) (h : FrT U E W4 w' t cc d M N a J s) : TzTo U w w' t cc d M N a:=by
 obtain ⟨U',E',m,z,j,tt,u,e,dd⟩:=h
 have:=hb.size
 exact ⟨U',z,(Tch.of_below (S:=U) hb).trans tt (fun y hy q => q.elim id (fun q => by have:=hE y q; omega)),fun k hk => (u k hk).imp id (fun q => by omega)⟩
end
theorem partIV (b : Option Addr) (L cap i j : Nat) (h1 : i <= j) (h2 : j <= L) (h3 : L <= cap) (w : World) : (Instr.sliceAt 56 (.slice b L cap) (some (.int .i64 (i : Int))) (some (.int .i64 (j : Int))) none).run Tryz.prog w = .ok (sliced b i j cap 1) w:=by
 rw [run_sliceAt_slice _ _ _ _ _ _ zea9,run_slice_lh _ _ _ _ _ zea9 _ _ _ _ (by omega) (by omega) (by omega),sizeIV]
 simp [Result.andThen]
theorem zlm9 {b : Option Addr} {l m cap L : Nat} {j : Nat} (h : (sliced b l m cap 1).ownBlock = some j) : (Value.slice b L cap).ownBlock = some j:=by
 unfold sliced at h
 cases b with
 | none => split at h <;> simp [Value.ownBlock] at h
 | some ad =>
  have hb : ∀ q,(ad.add q).block = ad.block:=fun q => by unfold Addr.add; split <;> rfl
  split at h <;> simpa [Value.ownBlock,hb] using h
theorem znu9 {b : Option Addr} (l m cap : Nat) : ∃ b' c',sliced b l m cap 1 = .slice b' (m - l) c':=⟨_,_,rfl⟩
def C1 (w : World) (T : TypeId) (b : Nat) (v : Value) : Prop:=w.heap[b]? = some (.cells #[v] T (0,0))
section
variable {w w' : World} {T : TypeId} {b : Nat} {v : Value}
theorem C1.c (h : C1 w T b v) : w.cell? ⟨b,0,none⟩ = some v:=by rw [cell_of_row w b 0 _ _ (0,0) h]; rfl
theorem C1.fz (h : C1 w T b v) : w.frozen? ⟨b,0,none⟩ = false:=frozen_of_row w b 0 _ _ h
theorem C1.lt (h : C1 w T b v) : b < w.heap.size:=(Array.getElem?_eq_some_iff.1 h).1
theorem C1.tch {S : Nat -> Prop} (h : C1 w T b v) (ht : Tch S w w') (hb : ¬ S b) : C1 w' T b v:=by unfold C1; rw [ht.block b h.lt hb]; exact h
theorem C1.below (h : C1 w T b v) (hb : Below w.heap.size w w') : C1 w' T b v:=h.tch (S:=fun _ => False) (Tch.of_below hb) (fun e => e)
theorem C1.new (w : World) (T : TypeId) (v : Value) : C1 (w.alloc (.cells #[v] T)) T w.heap.size v:=heap_alloc_new w _
theorem C1.set (h : C1 w T b v) (x : Value) : C1 (w.setCell ⟨b,0,none⟩ x) T b x:=heap_setCell_same w b 0 _ _ x h
end
theorem zqc9 (n : Nd) (u1 u2 u3 : Value) (x : Int) (key : ByteArray) (kb vb fb : Nat) (s : ByteArray × Bool) (w : World) (h : Nn w n u1 u2 u3) (hv : Vk n) (hk : C1 w 9 kb (.string key)) (hvb : C1 w 9 vb (.string s.1)) (hfb : C1 w 4 fb (.bool s.2)) (hne : vb ≠ fb) :
  Calls Tryz.prog 41 #[.int .i64 x,nod n.lf u1 u2 u3,.pointer (some ⟨kb,0,none⟩),.pointer (some ⟨vb,0,none⟩),.pointer (some ⟨fb,0,none⟩)] w fun e w' =>
   ∃ v,e = .returned v /\ C1 w' 9 vb (.string ((getW key).st s x n).1.1) /\ C1 w' 4 fb (.bool ((getW key).st s x n).1.2) /\ Tch (fun k => k = vb ∨ k = fb) w w' /\ RdV w' v (nums ((getW key).st s x n).2) /\ (∀ j,v.ownBlock = some j -> u3.ownBlock = some j):=by
 obtain ⟨a1,c1,a2,c2,a3,c3,rfl,rfl,rfl,⟨l1,l2,l3,l4,l5,l6⟩,_,_,_⟩:=h.out
 obtain ⟨L1,hL1⟩:=exH n.ks.length
 obtain ⟨L2,hL2⟩:=exH n.vs.length
 obtain ⟨L3,hL3⟩:=exH n.kd.length
 obtain ⟨lf,hlf⟩:=exH n.lf
 rw [hL1.out,hL2.out,hL3.out] at h
 rw [hL1.out] at l1
 rw [hL2.out] at l3
 rw [hL3.out] at l5
 rw [hL1.out,hL2.out,hL3.out,hlf.out]
 have HV:=hideN hv
 have hpl:=plc_le n key n.ks.length
 have hl:=hv.len
 rw [hL1.out] at hpl hl
 rw [hL2.out,hL3.out] at hl
 obtain ⟨W1,hW1⟩:=exN (w.alloc (.cells #[.bool lf,.slice a1 L1 c1,.slice a2 L2 c2,.slice a3 L3 c3] 93))
 have b1 : Below w.heap.size w W1:=by rw [<- hW1]; exact za9 _ _
 have V1 : Nb W1 93 w.heap.size lf (.slice a1 L1 c1) (.slice a2 L2 c2) (.slice a3 L3 c3):=by rw [<- hW1]; exact nb_new _ _ _ _ _ _
 have h1:=h.below b1
 have k1:=(hk.below b1).c
 have vc0:=V1.c0
 have vc1:=V1.c1
 have vc2:=V1.c2
 have vc3:=V1.c3
 have HN1:=hideN h1
 have HB1:=hideN b1
 have HV1:=hideN V1
 have HVB:=hideN hvb
 have HFB:=hideN hfb
 obtain ⟨p,hp⟩:=exH (plc n key L1)
 rw [hp.out] at hpl
 unfold nod
 cases lf
 ·have HI:=hideN (hv.inner hlf.out)
  have hin:=plc_in hlf.out key n.ks.length hv.pos
  rw [hL1.out,hp.out] at hin
  have h13 : L1 = L3:=by rw [<- hL1.out,<- hL3.out]; exact HI.out.2.1.symm
  subst h13
  have PL:=zet9 n _ _ _ key W1 h1 hv.sm
  rw [hlf.out,hL1.out,hp.out] at PL
  unfold nod at PL
  have HPL:=hideN PL
  have HST : Hid (((getW key).st s x n) = (s,[dA n p])):=by
   show _ = _
   simp only [getW,hlf.out,hL1.out,hp.out,Bool.false_eq_true,if_false]
  rw [HST.out]
  clear h hv hk hvb hfb PL b1 V1 h1
  go_enter Tryz.func41,Tryz.ntmps41
  go_wp2_with fail
  refine HPL.out.mono ?_
  rintro e W2 ⟨rfl,b2⟩
  have V2:=HV1.out.below b2
  have h2:=HN1.out.below b2
  have BB : Below w.heap.size w W2:=HB1.out.trans (b2.mono HB1.out.size)
  have ek:=h2.kid (i:=p) (by rw [hL3.out]; exact hin)
  have m3:=V2.c3
  have SL:=fun W => partIV a3 L1 c3 p (p + 1) (by omega) (by omega) l5 W
  rw [show ((p + 1 : Nat) : Int) = (p : Int) + 1 from rfl] at SL
  obtain ⟨sb',sc',hsl⟩:=znu9 (b:=a3) p (p + 1) c3
  have hown : ∀ j,(sliced a3 p (p + 1) c3 1).ownBlock = some j -> (Value.slice a3 L1 c3).ownBlock = some j:=fun j hj => zlm9 hj
  have hrd : RdV W2 (sliced a3 p (p + 1) c3 1) (nums [dA n p]):=by
   have h4:=h2.d
   have e3 : L1 = (nums n.kd).length:=by rw [zn9,hL3.out]
   rw [e3] at h4
   have:=zba9 h4 p (p + 1) (by omega) (by rw [zn9,hL3.out]; omega)
   rw [show p + 1 - p = 1 from by omega] at this
   have e4 : ((nums n.kd).drop p).take 1 = nums [dA n p]:=by
    have hlt : p < (nums n.kd).length:=by rw [zn9,hL3.out]; exact hin
    rw [List.drop_eq_getElem_cons hlt]
    have hlt2 : p < n.kd.length:=by rw [hL3.out]; exact hin
    simp [nums,dA,zn3,hlt2]
   rw [e4] at this
   exact this
  rw [hsl,show p + 1 - p = 1 from by omega] at SL hown hrd
  have HOW:=hideN hown
  have HRD:=hideN hrd
  have HBB:=hideN BB
  have w1:=wk_nat (x:=(p : Int) + 1) (t:=p + 1) (by omega) (by omega)
  have w2:=zs9 (x:=(p : Int) + 1) (t:=p + 1) (by omega) (by omega)
  rw [show ((p + 1 : Nat) : Int) = (p : Int) + 1 from rfl] at w1 w2
  clear hown hrd BB ek V2 h2 b2 HPL
  go_wp2_with fail
  go_ret
  exact ⟨_,rfl,HVB.out.below HBB.out,HFB.out.below HBB.out,Tch.of_below HBB.out,HRD.out,HOW.out⟩
 ·have HLF:=hideN (hv.leaf hlf.out)
  have PL:=zcc9 n _ _ _ key W1 h1 hv.sm
  rw [hlf.out,hL1.out,hp.out] at PL
  obtain ⟨th,hth⟩:=exH (decide (p < L1 /\ eqs (kA n p) key = true))
  rw [hth.out] at PL
  unfold nod at PL
  have HPL:=hideN PL
  have HST : Hid (((getW key).st s x n) = (if th = true then (vA n p,true) else s,[])):=by
   show _ = _
   simp only [getW,hlf.out,hL1.out,hp.out,if_true]
   by_cases q : p < L1 /\ eqs (kA n p) key = true
   ·have : th = true:=by rw [<- hth.out]; exact decide_eq_true q
    rw [if_pos q,if_pos this]
   ·have : th = false:=by rw [<- hth.out]; exact decide_eq_false q
    rw [if_neg q,this,if_neg (by decide)]
  rw [HST.out]
  clear h hv hk hvb hfb PL b1 V1 h1
  go_enter Tryz.func41,Tryz.ntmps41
  go_wp2_with fail
  refine HPL.out.mono ?_
  rintro e W2 ⟨rfl,b2⟩
  have V2:=HV1.out.below b2
  have h2:=HN1.out.below b2
  have BB : Below w.heap.size w W2:=HB1.out.trans (b2.mono HB1.out.size)
  have HBB:=hideN BB
  cases th
  ·clear V2 h2 BB b2 HPL
   go_wp2_with fail
   go_ret
   exact ⟨_,rfl,HVB.out.below HBB.out,HFB.out.below HBB.out,Tch.of_below HBB.out,zam9 _,fun j hj => by cases hj⟩
  ·have hth':=of_decide_eq_true hth.out
   have h12 : L1 = L2:=by rw [<- hL1.out,<- hL2.out]; exact HLF.out.1.symm
   subst h12
   obtain ⟨b,o,rfl,cv⟩:=h2.val (i:=p) (by rw [hL2.out]; exact hth'.1)
   obtain ⟨vl,hvl⟩:=exH (vA n p)
   rw [hvl.out] at cv
   have m2:=V2.c2
   have VB2:=HVB.out.below BB
   have FB2:=HFB.out.below BB
   have i0 : (0 : Int) <= (p : Int):=by omega
   have i1 : (p : Int) < (L1 : Int):=by have:=hth'.1; omega
   obtain ⟨W3,hW3⟩:=exN (W2.setCell ⟨vb,0,none⟩ (.string vl))
   obtain ⟨W4,hW4⟩:=exN (W3.setCell ⟨fb,0,none⟩ (.bool true))
   have t3 : Tch (fun y => y = vb) W2 W3:=by rw [<- hW3]; exact tch_at _ _ _ _
   have t4 : Tch (fun y => y = fb) W3 W4:=by rw [<- hW4]; exact tch_at _ _ _ _
   have VB3 : C1 W3 9 vb (.string vl):=by rw [<- hW3]; exact VB2.set _
   have FB3:=FB2.tch t3 (fun e => hne e.symm)
   have VB4:=VB3.tch t4 hne
   have FB4 : C1 W4 4 fb (.bool true):=by rw [<- hW4]; exact FB3.set _
   have g1:=VB2.c
   have g2:=VB2.fz
   have g3:=FB3.c
   have g4:=FB3.fz
   have HFIN : Hid (C1 W4 9 vb (.string vl) /\ C1 W4 4 fb (.bool true) /\ Tch (fun k => k = vb ∨ k = fb) w W4):=⟨VB4,FB4,((Tch.of_below (S:=fun k => k = vb ∨ k = fb) BB).trans t3 (fun y hy e => .inl e)).trans t4 (fun y hy e => .inr e)⟩
   clear V2 h2 BB b2 HPL hth' VB2 FB2 t3 t4 VB3 FB3 VB4 FB4 HBB
   go_wp2_with fail
   try rw [hW4]
   go_ret
   exact ⟨_,rfl,(by have:=HFIN.out.1; rw [<- hvl.out] at this; exact this),HFIN.out.2.1,HFIN.out.2.2,zam9 _,fun j hj => by cases hj⟩
section
variable {H : Nat -> Prop} {t cc d M N : Nat} {a : AS} {b : CB} {c : CH} {R : Nat -> Prop} {w0 : World}
def BelC (R : Nat -> Prop) (w0 : World) (t cc d M N : Nat) (b : CB) (D : CD) (KB f lv : Nat) : Prop:=
 ∀ (H : Nat -> Prop) (w : World) (a : AS) (c : CH) (x : Int),(Lit.int .i64 x).wf = true -> Gz H w t cc d M N a b c -> Stay R w0 w H -> c.tk.length + 2 * f <= KB -> c.gn.length + 2 * f <= KB -> c.lv <= 100 →
  Calls Tryz.prog 143 #[chp b,.int .i64 x,.int .i64 (lv : Int)] w fun e w' => BelT H w t cc d M N b (belowF D f a c x lv) e w' /\ BlOk c f (belowF D f a c x lv)
theorem zdn9 (D : CD) (hC : Clo R w0 b D) (KB f lv : Nat) (hKB : KB <= 1000) (hlv : 1 <= lv /\ lv <= 17) (hrec : lv <= 16 -> BelC R w0 t cc d M N b D KB f (lv + 1)) : BelC R w0 t cc d M N b D KB (f + 1) lv:=by
 intro H w a c x hx G hS htk hgn hcl
 obtain ⟨g,caps,hfv,hen,hat⟩:=hC.fn
 obtain ⟨⟨er,n⟩,hlk⟩ : ∃ r,Hid (look a x lv = r):=⟨_,rfl⟩
 have HVK : Hid (er = 0 -> Vk n):=fun h => by
  have:=G.look (x:=x) (lv:=lv)
  rw [hlk.out] at this
  exact this h
 have HLV : Hid (er = 0 -> lv <= 16):=fun h => by
  have h2:=hlk.out
  unfold look at h2
  by_cases q : 16 < lv
  ·rw [if_pos q] at h2
   have h3 : (7 : Int) = er:=congrArg Prod.fst h2
   omega
  ·omega
 obtain ⟨RR,hRR⟩:=exH (belowF D (f + 1) a c x lv)
 rw [hRR.out]
 have HR0 : Hid (RR = if er ≠ 0 then ⟨er,[],a,c⟩ else if n.lf = true then ⟨0,piecesF (D.lf n),a,{ leaveF a c x with lv:=lv }⟩ else upF D n lv (belowF D f a (leaveF a c x) (dA n (plc n D.key n.ks.length)) (lv + 1))):=by
  show RR = _
  rw [<- hRR.out,belowF,hlk.out]
 have RDG:=zho9 x lv w G
 rw [hlk.out] at RDG
 have HRD:=hideN RDG
 have c0:=G.c0
 have HG:=hideN G
 have HGL:=hideN G.hl
 have HX:=hideN hx
 have HS:=hideN hS
 have HTK:=hideN htk
 have HGN:=hideN hgn
 have HCL:=hideN hcl
 have HC:=hideN hC
 have HFV:=hideN hfv
 have HEN:=hideN hen
 have HCT:=hideN hat
 have HREC:=hideN hrec
 obtain ⟨cb,hcb⟩:=exH b.cb
 unfold chp
 rw [hcb.out] at c0 ⊢
 clear G hx hS htk hgn hcl hC hfv hen hat hrec RDG
 go_enter Tryz.func143,Tryz.ntmps143
 go_wp2_with fail
 refine HRD.out.mono ?_
 rintro e W1 ⟨H1,v1,v2,v3,he,ho1,g1,t1,h1,ap1⟩
 have he' : e = .returned (.tuple #[nod n.lf v1 v2 v3,.int .i64 er]):=he
 have ho1 : Ow3 w.heap.size W1 n v1 v2 v3:=ho1
 subst he'
 clear he HRD c0
 obtain ⟨a1,c1,a2,c2,a3,c3,rfl,rfl,rfl,_,_,_,_⟩:=ho1.nn.out
 obtain ⟨L1,hL1⟩:=exH n.ks.length
 obtain ⟨L2,hL2⟩:=exH n.vs.length
 obtain ⟨L3,hL3⟩:=exH n.kd.length
 obtain ⟨lf,hlf⟩:=exH n.lf
 rw [hL1.out,hL2.out,hL3.out] at ho1 ap1
 rw [hL1.out,hL2.out,hL3.out,hlf.out]
 unfold nod
 obtain ⟨W2,hW2⟩:=exN (W1.alloc (.cells #[.bool false,.slice none 0 0,.slice none 0 0,.slice none 0 0] 93))
 have NB : Nb W2 93 W1.heap.size false (.slice none 0 0) (.slice none 0 0) (.slice none 0 0):=by rw [<- hW2]; exact nb_new _ _ _ _ _ _
 have b2 : Below W1.heap.size W1 W2:=by rw [<- hW2]; exact za9 _ _
 obtain ⟨W3,hW3⟩:=exN ((((W2.setCell ⟨W1.heap.size,0,none⟩ (.bool lf)).setCell ⟨W1.heap.size,1,none⟩ (.slice a1 L1 c1)).setCell ⟨W1.heap.size,2,none⟩ (.slice a2 L2 c2)).setCell ⟨W1.heap.size,3,none⟩ (.slice a3 L3 c3))
 have NC : Nb W3 93 W1.heap.size lf (.slice a1 L1 c1) (.slice a2 L2 c2) (.slice a3 L3 c3):=by rw [<- hW3]; exact NB.all _ _ _ _
 have t3 : Tch (fun y => y = W1.heap.size) W2 W3:=by rw [<- hW3]; exact zg9 _ _ _ _ _ _
 have t13 : Tch (fun _ => False) W1 W3:=(Tch.of_below b2).trans t3 (fun y hy e => by omega)
 have B3 : Bz H w t cc d M N b a c W3 H1 W1.heap.size n (.slice a1 L1 c1) (.slice a2 L2 c2) (.slice a3 L3 c3):=⟨g1.tch t13 (fun _ _ e => e),t1.trans t13 (fun _ _ e => e.elim),h1,by rw [hlf.out]; exact NC,by have:=t1.size; omega,fun e => by have:=g1.hl W1.heap.size e; omega,ho1.tch t13 (fun _ _ e => e),ap1⟩
 have HB3:=hideN B3
 have p0:=NB.c0
 have p1:=NB.c1
 have p2:=NB.c2
 have p3:=NB.c3
 have f0:=NB.fz 0
 have f1:=NB.fz 1
 have f2:=NB.fz 2
 have f3:=NB.fz 3
 clear NB b2 t3 t13 g1 t1 h1 ap1 ho1
 by_cases h0 : er = 0
 ·subst h0
  have HV:=hideN (HVK.out rfl)
  have HL16:=hideN (HLV.out rfl)
  have LV:=zaz9 x HX.out W3 B3.gz (by have:=HGN.out; omega)
  unfold chp at LV
  rw [hcb.out] at LV
  have HLE:=hideN LV
  clear LV B3 NC
  go_wp2_with fail
  refine HLE.out.mono ?_
  rintro e W4 ⟨rfl,g4⟩
  obtain ⟨H4,B4⟩:=HB3.out.moveTo g4
  have HB4:=hideN B4
  have N4 : Nb W4 93 W1.heap.size lf (.slice a1 L1 c1) (.slice a2 L2 c2) (.slice a3 L3 c3):=by rw [<- hlf.out]; exact B4.nb
  have k0:=N4.c0
  have k1:=N4.c1
  have k2:=N4.c2
  have k3:=N4.c3
  clear g4 HB3 HLE p0 p1 p2 p3 f0 f1 f2 f3 hW2 hW3
  cases lf
  ·clear HEN HCT
   have HIN:=hideN (HV.out.inner hlf.out)
   have HRU : Hid (RR = upF D n lv (belowF D f a (leaveF a c x) (dA n (plc n D.key n.ks.length)) (lv + 1))):=by
    show RR = _
    rw [HR0.out,if_neg (by simp),if_neg (by rw [hlf.out]; decide)]
   have hpos:=HV.out.pos
   have hplt:=plc_in hlf.out D.key n.ks.length hpos
   rw [hL1.out] at hpos hplt
   have h13 : L1 = L3:=by rw [<- hL1.out,<- hL3.out]; exact HIN.out.2.1.symm
   subst h13
   have hl240 : L1 <= 240:=by rw [<- hL1.out]; exact HV.out.len.1
   obtain ⟨p,hp⟩:=exH (plc n D.key L1)
   rw [hp.out] at hplt
   obtain ⟨kb,ko,rfl,ck4⟩:=B4.ow.nn.key (i:=p) (by rw [hL1.out]; exact hplt)
   obtain ⟨db,dof,rfl,dk4⟩:=B4.ow.nn.kid (i:=p) (by rw [hL3.out]; omega)
   obtain ⟨ky,hky⟩:=exH (kA n p)
   obtain ⟨kid,hkid⟩:=exH (dA n p)
   have HKR : Hid (0 <= kid /\ kid <= 65535):=by
    have:=HIN.out.1 p (by rw [hL3.out]; omega)
    rw [hkid.out] at this
    exact this
   obtain ⟨key,hkey⟩:=exH D.key
   have HBK : Hid (b.key = key):=by show _ = _; rw [HC.out.key,hkey.out]
   obtain ⟨r,hr⟩:=exH (belowF D f a (leaveF a c x) kid (lv + 1))
   have HRV : Hid (RR = upF D n lv r):=by
    show RR = _
    rw [HRU.out,hL1.out,hp.out,hkid.out,hr.out]
   have B4d:=B4.drew
   have e1 : W4.drew.cell? ⟨cb,1,none⟩ = some (.string key):=by rw [<- hcb.out,<- HBK.out]; exact B4d.gz.c1
   have N4d : Nb W4.drew 93 W1.heap.size false (.slice (some ⟨kb,ko,none⟩) L1 c1) (.slice a2 L2 c2) (.slice (some ⟨db,dof,none⟩) L1 c3):=by rw [<- hlf.out]; exact B4d.nb
   have hS : W4.drew.cell? ⟨cb,1,none⟩ = some (.string key) /\ Nb W4.drew 93 W1.heap.size false (.slice (some ⟨kb,ko,none⟩) L1 c1) (.slice a2 L2 c2) (.slice (some ⟨db,dof,none⟩) L1 c3):=⟨e1,N4d⟩
   have PL:=zet9 n _ _ _ D.key W4.drew B4d.ow.nn HV.out.sm
   rw [hlf.out,hL1.out,hp.out,hkey.out] at PL
   have HPL:=hideN PL
   have HB4d:=hideN B4d
   clear B4 B4d N4 N4d e1 PL ck4 dk4 k0 k1 k2 k3 HB4
   have k0 : W4.cell? ⟨W1.heap.size,0,none⟩ = some (.bool false):=hS.2.c0
   go_wp2_with fail
   clear k0
   have mixed : Tryz.prog.follows .mixedOrders = true:=by kernel_rfl
   refine beginW (S:=fun w' => w'.cell? ⟨cb,1,none⟩ = some (.string key) /\ Nb w' 93 W1.heap.size false (.slice (some ⟨kb,ko,none⟩) L1 c1) (.slice a2 L2 c2) (.slice (some ⟨db,dof,none⟩) L1 c3)) (t:=6) mixed ?_
   refine tkW 0 (some 43) (.load 93 (.tmp 8)) (nod false (.slice (some ⟨kb,ko,none⟩) L1 c1) (.slice a2 L2 c2) (.slice (some ⟨db,dof,none⟩) L1 c3)) ?hy hS ?_
   case hy =>
    rintro o ho w' ⟨z1,z2⟩
    have q0:=z2.c0; have q1:=z2.c1; have q2:=z2.c2; have q3:=z2.c3
    unfold nod
    go_simp
   simp only [Act.put,qa,qb,qc]
   refine tkW 1 (some 44) (.move (.tmp 0)) (Value.pointer (some ⟨cb,0,none⟩)) (by rintro o ho w' ⟨z1,z2⟩; go_simp) hS ?_
   simp only [Act.put,qa,qb,qc]
   refine tkW 2 (some 45) (.nilCheck (.tmp 44)) (Value.pointer (some ⟨cb,0,none⟩)) (by rintro o ho w' ⟨z1,z2⟩; go_simp) hS ?_
   simp only [Act.put,qa,qb,qc]
   refine tkW 3 (some 46) (.fieldAddr 114 (.tmp 45) 1) (Value.pointer (some ⟨cb,1,none⟩)) (by rintro o ho w' ⟨z1,z2⟩; go_simp) hS ?_
   simp only [Act.put,qa,qb,qc]
   refine tkW 4 (some 47) (.load 9 (.tmp 46)) (Value.string key) (by rintro o ho w' ⟨z1,z2⟩; go_simp) hS ?_
   simp only [Act.put,qa,qb,qc]
   refine rdW 5 (some 48) (.call { callee:=.value (.func 42),args:=#[.tmp 43,.tmp 47],argTypes:=#[93,9] }) ?_
   rintro o K hd ho hg hK
   refine zd9 (enters_of Tryz.func42 (by kernel_rfl) rfl) ho (vs:=#[nod false (.slice (some ⟨kb,ko,none⟩) L1 c1) (.slice a2 L2 c2) (.slice (some ⟨db,dof,none⟩) L1 c3),.string key]) (by kernel_rfl) HPL.out ?_
   rintro e W5 ⟨rfl,b5⟩
   refine ⟨_,rfl,?_⟩
   rw [hd]
   have B5:=HB4d.out.below b5
   have hS5 : W5.cell? ⟨cb,1,none⟩ = some (.string key) /\ Nb W5 93 W1.heap.size false (.slice (some ⟨kb,ko,none⟩) L1 c1) (.slice a2 L2 c2) (.slice (some ⟨db,dof,none⟩) L1 c3):=⟨by rw [<- hcb.out,<- HBK.out]; exact B5.gz.c1,by rw [<- hlf.out]; exact B5.nb⟩
   refine hK _ _ (fun _ => hS5) ?_
   clear ho hd hg hK b5 HB4d hS
   simp only [Act.put,qa,qb,qc]
   refine rdW 6 (some 10) (.assign (.tmp 48)) ?_
   rintro o K hd ho hg hK
   refine stepY (v:=Value.int .i64 (p : Int)) ?hy ?_
   case hy => go_simp
   rw [hd]
   refine hK _ _ (fun e => absurd rfl e) ?_
   clear ho hd hg hK
   simp only [Act.put,qa,qb,qc]
   refine doneW (by kernel_rfl) ?_ _
   obtain ⟨_,_,eb,ek5⟩:=B5.ow.nn.kid (i:=p) (by rw [hL3.out]; omega)
   cases eb
   rw [hkid.out] at ek5
   have m3:=hS5.2.c3
   have i0 : (0 : Int) <= (p : Int):=by omega
   have i1 : (p : Int) < (L1 : Int):=by omega
   have wl1:=wk_nat (x:=(lv : Int) + 1) (t:=lv + 1) (by omega) (by omega)
   have wl2:=zs9 (x:=(lv : Int) + 1) (t:=lv + 1) (by omega) (by omega)
   have REC:=HREC.out HL16.out H4 W5 a (leaveF a c x) kid (by have:=HKR.out; exact zap9 (by omega) (by omega)) B5.gz (HS.out.on B5.tc B5.hh) (by have:=HTK.out; rw [(zar9 a c x).2.1]; omega) (by have:=HGN.out; have:=(zar9 a c x).1; omega) (by rw [(zar9 a c x).2.2]; exact HCL.out)
   unfold chp at REC
   rw [hcb.out,hr.out] at REC
   have HRC:=hideN REC
   have HB5:=hideN B5
   have HLC:=hideN (zar9 a c x)
   clear REC B5 hS5
   go_wp2_with fail
   clear wl1 wl2
   refine HRC.out.mono ?_
   rintro e W6 ⟨⟨H6,Zp,v6,rfl,g6,t6,h6,p6,z6⟩,ok6⟩
   have B6:=HB5.out.move g6 t6 h6
   have HZ6 : Hid (∀ k,Zp k -> W5.heap.size <= k /\ ¬ H6 k /\ k < W6.heap.size):=fun k hk => ⟨(z6 k hk).1,(z6 k hk).2.2,(z6 k hk).2.1⟩
   have HOK6:=hideN ok6
   obtain ⟨pl2,va,rfl⟩:=p6.len
   obtain ⟨pl,hpl⟩:=exH r.ps.length
   rw [hpl.out] at p6 pl2 ⊢
   have HP6:=hideN p6
   obtain ⟨re,hre⟩:=exH r.e
   rw [hre.out]
   have HS65 : Hid (W5.heap.size <= W6.heap.size /\ w.heap.size <= W5.heap.size):=⟨t6.size,HB5.out.tc.size⟩
   have HB5' : Hid (W1.heap.size < W5.heap.size):=HB5.out.nb.lt
   have HU5:=hideN (HB5.out.ow.lt)
   clear g6 t6 h6 p6 z6 ok6 HRC m3 ek5
   by_cases hre0 : re = 0
   ·subst hre0
    obtain ⟨_,_,eb,ck6⟩:=B6.ow.nn.key (i:=p) (by rw [hL1.out]; exact hplt)
    cases eb
    rw [hky.out] at ck6
    have B6d:=B6.drew
    have cz6 : W6.drew.frozen? ⟨kb,ko + p,none⟩ = false:=B6d.ow.k.fz1 _
    have e16 : W6.drew.cell? ⟨cb,1,none⟩ = some (.string key):=by rw [<- hcb.out,<- HBK.out]; exact B6d.gz.c1
    have N6 : Nb W6.drew 93 W1.heap.size false (.slice (some ⟨kb,ko,none⟩) L1 c1) (.slice a2 L2 c2) (.slice (some ⟨db,dof,none⟩) L1 c3):=by rw [<- hlf.out]; exact B6d.nb
    have hS : (W6.drew.cell? ⟨cb,1,none⟩ = some (.string key) /\ W6.drew.cell? ⟨kb,ko + p,none⟩ = some (.string ky)) /\ Nb W6.drew 93 W1.heap.size false (.slice (some ⟨kb,ko,none⟩) L1 c1) (.slice a2 L2 c2) (.slice (some ⟨db,dof,none⟩) L1 c3):=⟨⟨e16,ck6⟩,N6⟩
    obtain ⟨km,hkm⟩:=exH (Go.Proofs.YtjhccpijpffahaaGreat.minS ky key)
    have HMN : Hid (∀ (W : World) ts ty,(Builtin.min_ ts ty #[.string ky,.string key]).run Tryz.prog W = .ok (.string km) W):=fun W ts ty => by rw [zrf9,hkm.out]
    obtain ⟨n1,hn1⟩:=exH (lowK n D.key)
    have HN1 : Hid (setK n p km = n1):=by
     show _ = _
     rw [<- hn1.out]
     unfold lowK
     rw [hL1.out,hp.out,hky.out,hkey.out,hkm.out]
    obtain ⟨W7,hW7⟩:=exN (W6.drew.setCell ⟨kb,ko + p,none⟩ (.string km))
    have B7:=B6d.key (i:=p) (by rw [hL1.out]; exact hplt) km
    rw [HN1.out,hW7] at B7
    have t7 : Tch (fun y => y = kb) W6.drew W7:=by rw [<- hW7]; exact tch_at _ _ _ _
    have HP7 : Hid (Ps Zp W7 (.slice va pl pl) r.ps):=by
     have hg : w.heap.size <= kb:=B6d.ow.k.ge kb rfl
     have hlt : kb < W5.heap.size:=HB5.out.ow.k.owns.lt kb rfl
     exact (HP6.out.below (Below.refl _ _).drew).tch t7 (fun j hj e => by have:=(HZ6.out j hj).1; omega)
    have hlf1 : Hid (n1.lf = false):=by show _ = _; rw [<- HN1.out]; exact hlf.out
    have HN1O:=hideN (ztd9 HV.out HC.out.ks)
    rw [hn1.out] at HN1O
    have hK1 : Hid (n1.ks.length = L1 /\ n1.vs.length = L2 /\ n1.kd.length = L1):=by
     show _ /\ _ /\ _
     rw [<- HN1.out]
     exact ⟨by rw [zgg9]; exact hL1.out,hL2.out,hL3.out⟩
    have hD1 : Hid (∀ i,i < n1.kd.length -> 0 <= dA n1 i /\ dA n1 i <= 65535):=fun i hi => by
     have:=HIN.out.1 i
     rw [<- HN1.out] at hi ⊢
     exact this hi
    have HB7:=hideN B7
    clear B6 B6d ck6 e16 N6 t7 HB5 HP6
    go_wp2_with fail
    refine beginW (S:=fun w' => (w'.cell? ⟨cb,1,none⟩ = some (.string key) /\ w'.cell? ⟨kb,ko + p,none⟩ = some (.string ky)) /\ Nb w' 93 W1.heap.size false (.slice (some ⟨kb,ko,none⟩) L1 c1) (.slice a2 L2 c2) (.slice (some ⟨db,dof,none⟩) L1 c3)) (t:=14) mixed ?_
    refine tkW 0 (some 64) (.fieldAddr 93 (.tmp 8) 1) (Value.pointer (some ⟨W1.heap.size,1,none⟩)) (by rintro o ho w' ⟨z1,z2⟩; go_simp) hS ?_
    simp only [Act.put,qa,qb,qc]
    refine tkW 1 (some 65) (.load 91 (.tmp 64)) (Value.slice (some ⟨kb,ko,none⟩) L1 c1) ?hy hS ?_
    case hy =>
     rintro o ho w' ⟨z1,z2⟩
     have q1:=z2.c1
     go_simp
    simp only [Act.put,qa,qb,qc]
    refine tkW 2 (some 66) (.move (.tmp 10)) (Value.int .i64 (p : Int)) (by rintro o ho w' ⟨z1,z2⟩; go_simp) hS ?_
    simp only [Act.put,qa,qb,qc]
    refine tkW 3 (some 67) (.fieldAddr 93 (.tmp 8) 1) (Value.pointer (some ⟨W1.heap.size,1,none⟩)) (by rintro o ho w' ⟨z1,z2⟩; go_simp) hS ?_
    simp only [Act.put,qa,qb,qc]
    refine tkW 4 (some 68) (.load 91 (.tmp 67)) (Value.slice (some ⟨kb,ko,none⟩) L1 c1) ?hy hS ?_
    case hy =>
     rintro o ho w' ⟨z1,z2⟩
     have q1:=z2.c1
     go_simp
    simp only [Act.put,qa,qb,qc]
    refine tkW 5 (some 69) (.move (.tmp 10)) (Value.int .i64 (p : Int)) (by rintro o ho w' ⟨z1,z2⟩; go_simp) hS ?_
    simp only [Act.put,qa,qb,qc]
    refine tkW 6 (some 70) (.indexAddr 91 (.tmp 68) (.tmp 69)) (Value.pointer (some ⟨kb,ko + p,none⟩)) (by rintro o ho w' ⟨z1,z2⟩; go_simp) hS ?_
    simp only [Act.put,qa,qb,qc]
    refine tkW 7 (some 71) (.load 9 (.tmp 70)) (Value.string ky) (by rintro o ho w' ⟨⟨z0,z1⟩,z2⟩; go_simp) hS ?_
    simp only [Act.put,qa,qb,qc]
    refine tkW 8 (some 72) (.move (.tmp 0)) (Value.pointer (some ⟨cb,0,none⟩)) (by rintro o ho w' ⟨z1,z2⟩; go_simp) hS ?_
    simp only [Act.put,qa,qb,qc]
    refine tkW 9 (some 73) (.nilCheck (.tmp 72)) (Value.pointer (some ⟨cb,0,none⟩)) (by rintro o ho w' ⟨z1,z2⟩; go_simp) hS ?_
    simp only [Act.put,qa,qb,qc]
    refine tkW 10 (some 74) (.fieldAddr 114 (.tmp 73) 1) (Value.pointer (some ⟨cb,1,none⟩)) (by rintro o ho w' ⟨z1,z2⟩; go_simp) hS ?_
    simp only [Act.put,qa,qb,qc]
    refine tkW 11 (some 75) (.load 9 (.tmp 74)) (Value.string key) (by rintro o ho w' ⟨⟨z0,z1⟩,z2⟩; go_simp) hS ?_
    simp only [Act.put,qa,qb,qc]
    refine tkW 12 (some 76) (.call { callee:=.builtin .min,args:=#[.tmp 71,.tmp 75],argTypes:=#[9,9] }) (Value.string km) ?hy hS ?_
    case hy =>
     rintro o ho w' ⟨z1,z2⟩
     have q:=HMN.out w'
     go_simp
    simp only [Act.put,qa,qb,qc]
    refine tkW 13 (some 77) (.indexAddr 91 (.tmp 65) (.tmp 66)) (Value.pointer (some ⟨kb,ko + p,none⟩)) (by rintro o ho w' ⟨z1,z2⟩; go_simp) hS ?_
    simp only [Act.put,qa,qb,qc]
    refine rdW 14 none (.store 9 (.tmp 77) (.tmp 76)) ?_
    rintro o K hd ho hg hK
    refine zob9 ho rfl rfl hS.1.2 cz6 ?_
    rw [hd,hW7]
    refine hK _ _ (fun e => absurd rfl e) ?_
    refine doneW (by kernel_rfl) ?_ _
    clear ho hd hg hK hS cz6
    simp only [Act.put]
    have HOK : Hid (∀ (i j : Nat) (ps : List Nd) (c' : CH),c'.tk.length <= r.c.tk.length -> c'.gn.length <= r.c.gn.length + 1 -> c'.lv <= 100 -> ps.length <= 2 -> (∀ q ∈ ps,Sm q) -> BlOk c (f + 1) (tailF r.a c' n1 i j ps)):=fun i j ps c' q1 q2 q3 q4 q5 => by
     have k1:=HOK6.out.tk
     have k2:=HOK6.out.gn
     have k3:=HLC.out
     rw [k3.2.1] at k1
     exact zmj9 (by omega) (by omega) q3 q4 HN1O.out.1 HN1O.out.2 q5
    have HSP : Hid (∀ q ∈ r.ps,Sm q):=fun q hq => (HOK6.out.sz q hq).sm
    have HTK6 : Hid (r.c.tk.length <= KB /\ r.c.gn.length <= KB):=by
     have k1:=HOK6.out.tk
     have k2:=HOK6.out.gn
     have k3:=HLC.out
     rw [k3.2.1] at k1
     have:=HTK.out
     have:=HGN.out
     exact ⟨by omega,by omega⟩
    have N7 : Nb W7 93 W1.heap.size false (.slice (some ⟨kb,ko,none⟩) L1 c1) (.slice a2 L2 c2) (.slice (some ⟨db,dof,none⟩) L1 c3):=by rw [<- hlf1.out]; exact B7.nb
    have HWP : Hid (IntKind.i64.wrap ((p : Int) + 1) = ((p + 1 : Nat) : Int) /\ wrap64 ((p : Int) + 1) = ((p + 1 : Nat) : Int)):=⟨wk_nat (by omega) (by omega),zs9 (by omega) (by omega)⟩
    obtain ⟨jn,hjn⟩:=exH b.jn
    have HJD : Hid (D.jn = jn):=by show _ = _; rw [<- HC.out.jn]; exact hjn.out
    have e3 : W7.cell? ⟨cb,3,none⟩ = some (.bool jn):=by rw [<- hcb.out,<- hjn.out]; exact B7.gz.c3
    clear B7
    cases jn
    ·have BT:=HB7.out
     have RP:=zaj9 n1 (.slice (some ⟨kb,ko,none⟩) L1 c1) (.slice a2 L2 c2) (.slice (some ⟨db,dof,none⟩) L1 c3) (.slice va pl pl) p (p + 1) r.ps Zp W7 BT.gz (BT.ow.k.less (zn7 _)) BT.ow.v.rd (BT.ow.d.less (zn7 _)) BT.ap (fun k e => ⟨fun q => BT.ow.ap k q e,BT.ow.v.apart BT.ow.d (by decide) e⟩) (fun k e => BT.ow.lt k (.inr (.inl e))) HP7.out (fun k hk => (HZ6.out k hk).2.1) (by omega) (by rw [hK1.out.1]; omega) (by rw [hK1.out.2.2]; omega) (by rw [hK1.out.1,hK1.out.2.2]; omega) HSP.out (by have:=HTK6.out.1; omega)
     unfold chp nod at RP
     rw [hcb.out,hlf1.out] at RP
     obtain ⟨rr,hrr⟩:=exH (replaceF r.a r.c n1 p (p + 1) r.ps)
     rw [hrr.out] at RP
     have HRP:=hideN RP
     have HSZR : Hid (SzT rr.n):=by
      rw [<- hrr.out]
      exact zag9 _ _ _ _ HN1O.out.1 HN1O.out.2 HSP.out HOK6.out.two
     have HRT : Hid (RR = tailF r.a r.c n1 p (p + 1) r.ps):=(by
      show RR = _
      rw [HRV.out,upF_no hre.out (by unfold jnP; rw [HJD.out]; rintro ⟨e,_⟩; cases e),hn1.out,hL1.out,hp.out])
     have HRR : Hid (RR = if rr.e ≠ 0 then ⟨rr.e,[],rr.a,rr.c⟩ else ⟨0,piecesF rr.n,rr.a,rr.c⟩):=by
      show RR = _
      rw [HRT.out]
      unfold tailF
      rw [hrr.out]
     have HOKT : Hid (BlOk c (f + 1) RR):=by
      show BlOk c (f + 1) RR
      rw [HRT.out]
      exact (HOK.out p (p + 1) r.ps r.c (zn6 _) (by omega) HOK6.out.lv HOK6.out.two HSP.out)
     have HN7:=hideN N7
     have kc0:=N7.c0
     have kc1:=N7.c1
     have kc2:=N7.c2
     have kc3:=N7.c3
     clear RP BT N7
     have wp1:=HWP.out.1
     have wp2:=HWP.out.2
     go_wp2_with fail
     clear wp1 wp2
     refine HRP.out.mono ?_
     rintro e W8 ⟨H8,x1,x2,x3,rfl,g8,t8,h8,n8,f8⟩
     have BT:=HB7.out
     obtain ⟨p1,q1,p2,q2,p3,q3,rfl,rfl,rfl,_,_,_,_⟩:=n8.out
     obtain ⟨M1,hM1⟩:=exH rr.n.ks.length
     obtain ⟨M2,hM2⟩:=exH rr.n.vs.length
     obtain ⟨M3,hM3⟩:=exH rr.n.kd.length
     obtain ⟨ml,hml⟩:=exH rr.n.lf
     obtain ⟨me,hme⟩:=exH rr.e
     rw [hM1.out,hM2.out,hM3.out] at n8 f8
     rw [hM1.out,hM2.out,hM3.out,hml.out,hme.out]
     unfold nod
     have N8 : Nb W8 93 W1.heap.size false (.slice (some ⟨kb,ko,none⟩) L1 c1) (.slice a2 L2 c2) (.slice (some ⟨db,dof,none⟩) L1 c3):=HN7.out.tch t8 (fun e => e.elim BT.bn (fun e => e.elim (fun e => BT.ne _ (.inl e) rfl) (fun e => BT.ne _ (.inr (.inr e)) rfl)))
     obtain ⟨W9,hW9⟩:=exN ((((W8.setCell ⟨W1.heap.size,0,none⟩ (.bool ml)).setCell ⟨W1.heap.size,1,none⟩ (.slice p1 M1 q1)).setCell ⟨W1.heap.size,2,none⟩ (.slice p2 M2 q2)).setCell ⟨W1.heap.size,3,none⟩ (.slice p3 M3 q3))
     have N9 : Nb W9 93 W1.heap.size ml (.slice p1 M1 q1) (.slice p2 M2 q2) (.slice p3 M3 q3):=by rw [<- hW9]; exact N8.all _ _ _ _
     have t9 : Tch (fun y => y = W1.heap.size) W8 W9:=by rw [<- hW9]; exact zg9 _ _ _ _ _ _
     have nbx8 : ¬ H8 W1.heap.size:=fun e => (h8 _ e).elim BT.bn (fun e => by have:=BT.nb.lt; omega)
     have g9:=g8.tch t9 (fun y hy e => nbx8 (e ▸ hy))
     have T9 : Tch H w W9:=(BT.tc.trans t8 (fun y hy e => by
      rcases e with e | e | e
      ·exact (BT.hh y e).elim id (fun e => by omega)
      ·have:=BT.ow.fr y (.inl e); omega
      ·have:=BT.ow.fr y (.inr (.inr e)); omega)).trans t9 (fun y hy e => by have:=BT.bg; omega)
     have hh9 : ∀ k,H8 k -> H k ∨ w.heap.size <= k:=fun k hk => (h8 k hk).elim (BT.hh k) (fun e => .inr (zn2 BT.tc.size e))
     have xlo : ∀ j,((Value.slice p1 M1 q1).ownBlock = some j ∨ (Value.slice p2 M2 q2).ownBlock = some j ∨ (Value.slice p3 M3 q3).ownBlock = some j) -> j ≠ W1.heap.size /\ w.heap.size <= j:=fun j hj => by
      rcases (f8 j hj).1 with e | e | e | e
      ·exact ⟨BT.ne j (.inl e),BT.ow.fr j (.inl e)⟩
      ·exact ⟨BT.ne j (.inr (.inl e)),BT.ow.fr j (.inr (.inl e))⟩
      ·exact ⟨BT.ne j (.inr (.inr e)),BT.ow.fr j (.inr (.inr e))⟩
      ·have q1:=BT.nb.lt
       have q2:=BT.tc.size
       exact ⟨by omega,by omega⟩
     have n9:=n8.tch t9 (fun y hy e => (xlo y (.inl hy)).1 e) (fun y hy e => (xlo y (.inr (.inl hy))).1 e) (fun y hy e => (xlo y (.inr (.inr hy))).1 e)
     have PCE:=zas9 rr.n (.slice p1 M1 q1) (.slice p2 M2 q2) (.slice p3 M3 q3) (fun j => w.heap.size <= j /\ ¬ H8 j) W9 n9 HSZR.out.sm (fun j hj => ⟨(xlo j hj).2,(f8 j hj).2.1⟩) (fun j hj => zn1 (f8 j hj).2.2 t9.size)
     rw [hml.out] at PCE
     unfold nod at PCE
     have HPCE:=hideN PCE
     have HG9:=hideN g9
     have HT9:=hideN T9
     have HH9:=hideN hh9
     have yc0:=N8.c0
     have yc1:=N8.c1
     have yc2:=N8.c2
     have yc3:=N8.c3
     have yz0:=N8.fz 0
     have yz1:=N8.fz 1
     have yz2:=N8.fz 2
     have yz3:=N8.fz 3
     have zc0:=N9.c0
     have zc1:=N9.c1
     have zc2:=N9.c2
     have zc3:=N9.c3
     clear PCE BT n8 f8 t8 g8 h8 N8 N9 t9 nbx8 g9 T9 hh9 xlo n9 HRP kc0 kc1 kc2 kc3 HN7
     by_cases hme0 : me = 0
     ·subst hme0
      have HR2 : Hid (RR = ⟨0,piecesF rr.n,rr.a,rr.c⟩):=by
       show RR = _
       rw [HRR.out,if_neg (by rw [hme.out]; simp)]
      go_wp2_with fail
      refine HPCE.out.mono ?_
      rintro e WA ⟨vA',rfl,psA,bA⟩
      have HFIN : Hid (BelT H w t cc d M N b RR (.returned (.tuple #[vA',.int .i64 0])) WA /\ BlOk c (f + 1) RR):=by
       refine ⟨?_,HOKT.out⟩
       rw [HR2.out]
       refine ⟨H8,_,vA',rfl,HG9.out.below bA,HT9.out.trans (Tch.of_below (S:=H) bA) (fun _ _ e => e),HH9.out,psA,fun k hk => ?_⟩
       obtain ⟨hk1,hk2⟩:=hk
       rcases hk1 with ⟨q1,q2⟩ | q
       ·exact ⟨q1,hk2,q2⟩
       ·have:=HT9.out.size
        exact ⟨by omega,hk2,fun e => by have:=HG9.out.hl k e; omega⟩
      clear psA bA HPCE
      go_wp2_with fail
      go_ret2
      exact HFIN.out
     ·have df1 : (me == 0) = false:=by rw [beq_eq_false_iff_ne]; exact hme0
      have df2 : (me != 0) = true:=by rw [bne,df1]; rfl
      have HR2 : Hid (RR = ⟨me,[],rr.a,rr.c⟩):=by
       show RR = _
       rw [HRR.out,if_pos (by rw [hme.out]; exact hme0),hme.out]
      have HFIN : Hid (BelT H w t cc d M N b RR (.returned (.tuple #[.slice none 0 0,.int .i64 me])) W9 /\ BlOk c (f + 1) RR):=by
       refine ⟨?_,HOKT.out⟩
       rw [HR2.out]
       exact ⟨H8,fun _ => False,_,rfl,HG9.out,HT9.out,HH9.out,rfl,fun _ e => e.elim⟩
      clear hme0 HPCE
      go_wp2_with fail
      try rw [hW9]
      go_ret2
      exact HFIN.out
    ·by_cases h1 : pl = 1
     ·subst h1
      obtain ⟨q,hq⟩ : ∃ q,Hid (r.ps = [q]):=by
       have:=hpl.out
       match hh : r.ps,this with
       | [q],_ => exact ⟨q,rfl⟩
      have hgd : Hid (r.ps.getD 0 noneN = q):=by show _ = _; rw [hq.out]; rfl
      have HPn:=HP7.out
      rw [hq.out] at HPn
      obtain ⟨pb,y1,y2,y3,hv,hpb,nq,zb,zu⟩:=HPn
      cases hv
      obtain ⟨d1,f1,d2,f2,d3,f3,rfl,rfl,rfl,_,_,_,_⟩:=nq.out
      obtain ⟨P1,hP1⟩:=exH q.ks.length
      obtain ⟨P2,hP2⟩:=exH q.vs.length
      obtain ⟨P3,hP3⟩:=exH q.kd.length
      obtain ⟨qf,hqf⟩:=exH q.lf
      rw [hP1.out,hP2.out,hP3.out] at nq zu
      rw [hP1.out,hP2.out,hP3.out,hqf.out] at hpb
      have hSq:=HOK6.out.sz q (by rw [hq.out]; simp)
      have SZ:=zbx9 q _ _ _ W7 nq hSq.sm
      obtain ⟨sz,hsz⟩:=exH (W (szN q q.ks.length))
      rw [hsz.out,hqf.out] at SZ
      unfold nod at SZ
      have HSZ:=hideN SZ
      have NQ : Nb W7 93 pb qf (.slice d1 P1 f1) (.slice d2 P2 f2) (.slice d3 P3 f3):=hpb
      have HNQ:=hideN NQ
      have HNN:=hideN nq
      have HZU:=hideN zu
      have HZB:=hideN zb
      have HSQ:=hideN hSq
      have HN7':=hideN N7
      have jc0:=NQ.c0
      have jc1:=NQ.c1
      have jc2:=NQ.c2
      have jc3:=NQ.c3
      have wp1:=HWP.out.1
      have wp2:=HWP.out.2
      clear SZ NQ nq zu zb hSq hpb N7
      go_wp2_with fail
      clear wp1 wp2
      refine HSZ.out.mono ?_
      rintro e W7b ⟨rfl,b7⟩
      have HB7b:=hideN (HB7.out.below b7)
      have N7b:=HN7'.out.below b7
      have HP7b : Hid (Ps Zp W7b (.slice (some ⟨pb,0,none⟩) 1 1) r.ps):=HP7.out.below b7
      have Hs7 : Hid (W6.heap.size <= W7b.heap.size):=by
       have q1:=b7.size
       have q2 : W6.drew.heap.size <= W7.heap.size:=by rw [<- hW7]; exact (tch_at _ _ _ _).size
       exact zn2 q2 q1
      clear jc0 jc1 jc2 jc3 e3 HSZ
      by_cases hz : sz < 120
      ·have dz : decide (sz < 120) = true:=decide_eq_true hz
       have HJP : Hid (jnP D r.ps):=⟨HJD.out,hpl.out,by rw [hgd.out,hsz.out]; exact hz⟩
       obtain ⟨J,hJ⟩:=exH (joinedF r.a r.c n1 p lv q)
       have HRJ : Hid (RR = if J.e ≠ 0 then ⟨J.e,[],r.a,J.c⟩ else tailF r.a J.c n1 J.i J.j [J.n]):=by
        show RR = _
        rw [HRV.out,upF_jn hre.out HJP.out (J:=J) (by rw [hn1.out,hL1.out,hp.out,hgd.out]; exact hJ.out),hn1.out]
       have BD:=HB7b.out.drew
       have nqD : Nn W7b.drew q (.slice d1 P1 f1) (.slice d2 P2 f2) (.slice d3 P3 f3):=(HNN.out.below b7).below (Below.refl _ _).drew
       have apq : Ap3 H6 (.slice d1 P1 f1) (.slice d2 P2 f2) (.slice d3 P3 f3):=fun j hj => (HZ6.out j (HZU.out j hj)).2.1
       have hsD : W6.heap.size <= W7b.drew.heap.size:=Hs7.out
       have hd1:=hD1.out
       have JN:=zih9 n1 q (.slice (some ⟨kb,ko,none⟩) L1 c1) (.slice a2 L2 c2) (.slice (some ⟨db,dof,none⟩) L1 c3) (.slice d1 P1 f1) (.slice d2 P2 f2) (.slice d3 P3 f3) p lv W7b.drew BD.gz BD.ow.nn nqD BD.ap apq (fun j hj => by have:=(HZ6.out j (HZU.out j hj)).2.2; omega) HSQ.out.sm (by have:=HSQ.out.k; have:=HSQ.out.v; have:=HSQ.out.d; exact ⟨by omega,by omega,by omega⟩) (by omega) (by omega) (by rw [hK1.out.2.2]; omega) hd1 (by have:=HTK6.out.2; omega) (fun x hx => ⟨(BD.gz.vok x hx).may,(BD.gz.vok x hx).sm⟩)
       unfold chp at JN
       rw [hcb.out,hlf1.out,hqf.out,hJ.out] at JN
       have HJN:=hideN JN
       have HJO : Hid (JOk r.c n1 J):=by
        show JOk r.c n1 J
        rw [<- hJ.out]
        exact zkk9 (fun x hx => BD.gz.vok x hx) r.c HSQ.out (by rw [hK1.out.2.2]; omega) (by rw [hK1.out.2.2]; omega)
       have HTKJ : Hid (J.c.tk.length <= KB):=by show _ <= _; rw [HJO.out.tk]; exact HTK6.out.1
       obtain ⟨Q1,hQ1⟩:=exH J.n.ks.length
       obtain ⟨Q2,hQ2⟩:=exH J.n.vs.length
       obtain ⟨Q3,hQ3⟩:=exH J.n.kd.length
       obtain ⟨jf,hjf⟩:=exH J.n.lf
       obtain ⟨ji,hji⟩:=exH J.i
       obtain ⟨jj,hjj⟩:=exH J.j
       obtain ⟨je,hje⟩:=exH J.e
       have QD : Nb W7b.drew 93 pb qf (.slice d1 P1 f1) (.slice d2 P2 f2) (.slice d3 P3 f3):=(HNQ.out.below b7).below (Below.refl _ _).drew
       have N7d : Nb W7b.drew 93 W1.heap.size false (.slice (some ⟨kb,ko,none⟩) L1 c1) (.slice a2 L2 c2) (.slice (some ⟨db,dof,none⟩) L1 c3):=N7b.below (Below.refl _ _).drew
       have HBD:=hideN BD
       have HQD:=hideN QD
       have HN7d:=hideN N7d
       have HSTJ : Hid (∀ (WJ : World) (HJ : Nat -> Prop) (x1 x2 x3 : Value),Gz HJ WJ t cc d M N r.a b J.c -> Tch H6 W7b.drew WJ -> (∀ k,HJ k -> H6 k ∨ W7b.drew.heap.size <= k) -> Nn WJ J.n x1 x2 x3 -> (∀ j,(x1.ownBlock = some j ∨ x2.ownBlock = some j ∨ x3.ownBlock = some j) -> ((Value.slice d1 P1 f1).ownBlock = some j ∨ (Value.slice d2 P2 f2).ownBlock = some j ∨ (Value.slice d3 P3 f3).ownBlock = some j ∨ W7b.drew.heap.size <= j) /\ ¬ HJ j) →
         Nb WJ 93 W1.heap.size false (.slice (some ⟨kb,ko,none⟩) L1 c1) (.slice a2 L2 c2) (.slice (some ⟨db,dof,none⟩) L1 c3) /\ Nb WJ 93 pb qf (.slice d1 P1 f1) (.slice d2 P2 f2) (.slice d3 P3 f3) /\ ∀ WK,(((WJ.setCell ⟨pb,0,none⟩ (.bool jf)).setCell ⟨pb,1,none⟩ x1).setCell ⟨pb,2,none⟩ x2).setCell ⟨pb,3,none⟩ x3 = WK -> Nb WK 93 W1.heap.size false (.slice (some ⟨kb,ko,none⟩) L1 c1) (.slice a2 L2 c2) (.slice (some ⟨db,dof,none⟩) L1 c3) /\ Bz H w t cc d M N b r.a J.c WK HJ W1.heap.size n1 (.slice (some ⟨kb,ko,none⟩) L1 c1) (.slice a2 L2 c2) (.slice (some ⟨db,dof,none⟩) L1 c3) /\ Ps (fun k => k = pb ∨ (x1.ownBlock = some k ∨ x2.ownBlock = some k ∨ x3.ownBlock = some k)) WK (.slice (some ⟨pb,0,none⟩) 1 1) [J.n] /\ (∀ k,(k = pb ∨ (x1.ownBlock = some k ∨ x2.ownBlock = some k ∨ x3.ownBlock = some k)) -> ¬ HJ k)):=by
        intro WJ HJ x1 x2 x3 gJ tJ hJ nJ fJ
        have BD:=HBD.out
        have BJ:=BD.move gJ tJ hJ
        have zpb:=HZ6.out pb HZB.out
        have NJ:=HN7d.out.tch tJ BD.bn
        have QJ:=HQD.out.tch tJ zpb.2.1
        have hpl:=HQD.out.lt
        have hS65:=HS65.out
        have npb : ¬ HJ pb:=fun e => (hJ pb e).elim zpb.2.1 (fun e => by omega)
        have pne : pb ≠ W1.heap.size:=fun e => by
         have h1:=HB5'.out
         have:=zpb.1
         omega
        refine ⟨NJ,QJ,fun WK hWK => ?_⟩
        have tK : Tch (fun y => y = pb) WJ WK:=by rw [<- hWK]; exact zg9 _ _ _ _ _ _
        have NK:=NJ.tch tK (fun e => pne e.symm)
        have QK : Nb WK 93 pb jf x1 x2 x3:=by rw [<- hWK]; exact QJ.all _ _ _ _
        have unpb : ¬ ((Value.slice (some ⟨kb,ko,none⟩) L1 c1).ownBlock = some pb ∨ (Value.slice a2 L2 c2).ownBlock = some pb ∨ (Value.slice (some ⟨db,dof,none⟩) L1 c3).ownBlock = some pb):=fun e => by
         have:=HU5.out pb e
         have:=zpb.1
         omega
        have BK:=BJ.apart tK (fun k e => by subst e; exact ⟨npb,pne,unpb,by have:=zpb.1; omega⟩)
        refine ⟨NK,BK,⟨pb,x1,x2,x3,rfl,by rw [hjf.out]; exact QK,nJ.off QJ tK,.inl rfl,fun j hj => .inr hj⟩,fun k hk => ?_⟩
        rcases hk with rfl | hk
        ·exact npb
        ·exact (fJ k hk).2
       clear JN BD nqD apq hsD hd1 N7b b7 hz QD N7d
       go_wp2_with fail
       have hS : Nb W7b.drew 93 W1.heap.size false (.slice (some ⟨kb,ko,none⟩) L1 c1) (.slice a2 L2 c2) (.slice (some ⟨db,dof,none⟩) L1 c3):=HN7d.out
       refine beginW (S:=fun w' => Nb w' 93 W1.heap.size false (.slice (some ⟨kb,ko,none⟩) L1 c1) (.slice a2 L2 c2) (.slice (some ⟨db,dof,none⟩) L1 c3)) (t:=18) mixed ?_
       refine tkW 0 (some 98) (.move (.tmp 11)) (Value.slice (some ⟨pb,0,none⟩) 1 1) (by rintro o ho w' z2; go_simp) hS ?_
       simp only [Act.put,qa,qb,qc]
       refine tkW 1 (some 99) (.move (.tmp 0)) (Value.pointer (some ⟨cb,0,none⟩)) (by rintro o ho w' z2; go_simp) hS ?_
       simp only [Act.put,qa,qb,qc]
       refine tkW 2 (some 100) (.load 93 (.tmp 8)) (nod false (.slice (some ⟨kb,ko,none⟩) L1 c1) (.slice a2 L2 c2) (.slice (some ⟨db,dof,none⟩) L1 c3)) ?hy hS ?_
       case hy =>
        rintro o ho w' z2
        have q0:=z2.c0; have q1:=z2.c1; have q2:=z2.c2; have q3:=z2.c3
        unfold nod
        go_simp
       simp only [Act.put,qa,qb,qc]
       refine tkW 3 (some 101) (.move (.tmp 10)) (Value.int .i64 (p : Int)) (by rintro o ho w' z2; go_simp) hS ?_
       simp only [Act.put,qa,qb,qc]
       refine tkW 4 (some 102) (.move (.tmp 2)) (Value.int .i64 (lv : Int)) (by rintro o ho w' z2; go_simp) hS ?_
       simp only [Act.put,qa,qb,qc]
       refine tkW 5 (some 103) (.move (.tmp 11)) (Value.slice (some ⟨pb,0,none⟩) 1 1) (by rintro o ho w' z2; go_simp) hS ?_
       simp only [Act.put,qa,qb,qc]
       refine tkW 6 (some 104) (.indexAddr 176 (.tmp 103) (.const (.int .i64 0))) (Value.pointer (some ⟨pb,0,none⟩)) (by rintro o ho w' z2; go_simp) hS ?_
       simp only [Act.put,qa,qb,qc]
       refine rdW 7 (some 105) (.load 93 (.tmp 104)) ?_
       rintro o K hd ho hg hK
       refine stepY (v:=nod qf (.slice d1 P1 f1) (.slice d2 P2 f2) (.slice d3 P3 f3)) ?hy ?_
       case hy =>
        have QD:=HQD.out
        have q0:=QD.c0; have q1:=QD.c1; have q2:=QD.c2; have q3:=QD.c3
        unfold nod
        go_simp
       rw [hd]
       refine hK _ _ (fun _ => hS) ?_
       clear ho hd hg hK
       simp only [Act.put,qa,qb,qc]
       refine rdW 8 (some 106) (.call { callee:=.value (.func 160),args:=#[.tmp 99,.tmp 100,.tmp 101,.tmp 102,.tmp 105],argTypes:=#[154,93,3,3,93] }) ?_
       rintro o K hd ho hg hK
       refine zd9 (enters_of Tryz.func160 (by kernel_rfl) rfl) ho (vs:=#[Value.pointer (some ⟨cb,0,none⟩),nod false (.slice (some ⟨kb,ko,none⟩) L1 c1) (.slice a2 L2 c2) (.slice (some ⟨db,dof,none⟩) L1 c3),.int .i64 (p : Int),.int .i64 (lv : Int),nod qf (.slice d1 P1 f1) (.slice d2 P2 f2) (.slice d3 P3 f3)]) (by kernel_rfl) HJN.out ?_
       rintro e WJ ⟨HJ,x1,x2,x3,he,gJ,tJ,hJ,nJ,fJ⟩
       obtain ⟨d4,f4,d5,f5,d6,f6,rfl,rfl,rfl,_,_,_,_⟩:=nJ.out
       simp only [hQ1.out,hQ2.out,hQ3.out] at he nJ fJ
       simp only [hjf.out,hji.out,hjj.out,hje.out] at he
       refine ⟨_,he,?_⟩
       rw [hd]
       obtain ⟨hSJ,HJX⟩:=HSTJ.out WJ HJ _ _ _ gJ tJ hJ nJ fJ
       refine hK _ _ (fun _ => hSJ) ?_
       clear ho hd hg hK he hS gJ tJ hJ nJ fJ
       have hS:=hSJ
       simp only [Act.put,qa,qb,qc]
       refine tkW 9 (some 97) (.move (.tmp 106)) (Value.tuple #[nod jf (.slice d4 Q1 f4) (.slice d5 Q2 f5) (.slice d6 Q3 f6),.int .i64 (ji : Int),.int .i64 (jj : Int),.int .i64 je]) (by rintro o ho w' z2; go_simp) hS ?_
       simp only [Act.put,qa,qb,qc]
       refine tkW 10 (some 107) (.extract (.tmp 97) 0) (nod jf (.slice d4 Q1 f4) (.slice d5 Q2 f5) (.slice d6 Q3 f6)) (by rintro o ho w' z2; go_simp) hS ?_
       simp only [Act.put,qa,qb,qc]
       refine tkW 11 (some 108) (.extract (.tmp 97) 1) (Value.int .i64 (ji : Int)) (by rintro o ho w' z2; go_simp) hS ?_
       simp only [Act.put,qa,qb,qc]
       refine tkW 12 (some 109) (.extract (.tmp 97) 2) (Value.int .i64 (jj : Int)) (by rintro o ho w' z2; go_simp) hS ?_
       simp only [Act.put,qa,qb,qc]
       refine tkW 13 (some 110) (.extract (.tmp 97) 3) (Value.int .i64 je) (by rintro o ho w' z2; go_simp) hS ?_
       simp only [Act.put,qa,qb,qc]
       refine tkW 14 (some 111) (.indexAddr 176 (.tmp 98) (.const (.int .i64 0))) (Value.pointer (some ⟨pb,0,none⟩)) (by rintro o ho w' z2; go_simp) hS ?_
       simp only [Act.put,qa,qb,qc]
       refine rdW 15 none (.store 93 (.tmp 111) (.tmp 107)) ?_
       rintro o K hd ho hg hK
       refine zu9 ho rfl rfl HJX.1 ?_
       rw [hd]
       obtain ⟨WK,hWK⟩:=exN ((((WJ.setCell ⟨pb,0,none⟩ (.bool jf)).setCell ⟨pb,1,none⟩ (.slice d4 Q1 f4)).setCell ⟨pb,2,none⟩ (.slice d5 Q2 f5)).setCell ⟨pb,3,none⟩ (.slice d6 Q3 f6))
       obtain ⟨hSK,BK,PK,ZK⟩:=HJX.2 WK hWK
       rw [hWK]
       refine hK _ _ (fun _ => hSK) ?_
       clear ho hd hg hK hS hSJ HJX
       simp only [Act.put,qa,qb,qc]
       refine rdW 16 (some 12) (.assign (.tmp 108)) ?_
       rintro o K hd ho hg hK
       refine stepY (v:=Value.int .i64 (ji : Int)) ?hy ?_
       case hy => go_simp
       rw [hd]
       refine hK _ _ (fun _ => hSK) ?_
       clear ho hd hg hK
       simp only [Act.put,qa,qb,qc]
       refine rdW 17 (some 13) (.assign (.tmp 109)) ?_
       rintro o K hd ho hg hK
       refine stepY (v:=Value.int .i64 (jj : Int)) ?hy ?_
       case hy => go_simp
       rw [hd]
       refine hK _ _ (fun _ => hSK) ?_
       clear ho hd hg hK
       simp only [Act.put,qa,qb,qc]
       refine rdW 18 (some 9) (.assign (.tmp 110)) ?_
       rintro o K hd ho hg hK
       refine stepY (v:=Value.int .i64 je) ?hy ?_
       case hy => go_simp
       rw [hd]
       refine hK _ _ (fun e => absurd rfl e) ?_
       clear ho hd hg hK
       simp only [Act.put,qa,qb,qc]
       refine doneW (by kernel_rfl) ?_ _
       have HBK':=hideN BK
       have HPK:=hideN PK
       have HZK:=hideN ZK
       clear BK PK ZK hWK
       by_cases hje0 : je = 0
       ·subst hje0
        have hij:=HJO.out.ij hje.out
        rw [hji.out,hjj.out,hK1.out.2.2] at hij
        have BT:=HBK'.out
        have RP:=zaj9 n1 (.slice (some ⟨kb,ko,none⟩) L1 c1) (.slice a2 L2 c2) (.slice (some ⟨db,dof,none⟩) L1 c3) (.slice (some ⟨pb,0,none⟩) 1 1) ji jj [J.n] _ WK BT.gz (BT.ow.k.less (zn7 _)) BT.ow.v.rd (BT.ow.d.less (zn7 _)) BT.ap (fun k e => ⟨fun q => BT.ow.ap k q e,BT.ow.v.apart BT.ow.d (by decide) e⟩) (fun k e => BT.ow.lt k (.inr (.inl e))) HPK.out HZK.out (by omega) (by rw [hK1.out.1]; omega) (by rw [hK1.out.2.2]; omega) (by rw [hK1.out.1,hK1.out.2.2]; omega) (fun q hq => by rw [List.mem_singleton.1 hq]; exact HJO.out.sz.sm) (by have:=HTKJ.out; omega)
        unfold chp nod at RP
        rw [hcb.out,hlf1.out] at RP
        obtain ⟨rr,hrr⟩:=exH (replaceF r.a J.c n1 ji jj [J.n])
        rw [hrr.out] at RP
        have HRP:=hideN RP
        have HSZR : Hid (SzT rr.n):=by
         rw [<- hrr.out]
         exact zag9 _ _ _ _ HN1O.out.1 HN1O.out.2 (fun q hq => by rw [List.mem_singleton.1 hq]; exact HJO.out.sz.sm) (by simp)
        have HRT : Hid (RR = tailF r.a J.c n1 ji jj [J.n]):=(by
         show RR = _
         rw [HRJ.out,if_neg (by rw [hje.out]; simp),hji.out,hjj.out])
        have HRR : Hid (RR = if rr.e ≠ 0 then ⟨rr.e,[],rr.a,rr.c⟩ else ⟨0,piecesF rr.n,rr.a,rr.c⟩):=by
         show RR = _
         rw [HRT.out]
         unfold tailF
         rw [hrr.out]
        have HOKT : Hid (BlOk c (f + 1) RR):=by
         show BlOk c (f + 1) RR
         rw [HRT.out]
         exact (HOK.out ji jj [J.n] J.c (by rw [HJO.out.tk]; exact zn6 _) HJO.out.gn (by rw [HJO.out.lv]; exact HOK6.out.lv) (by simp) (fun q hq => by rw [List.mem_singleton.1 hq]; exact HJO.out.sz.sm))
        have HN7:=hideN hSK
        have kc0:=hSK.c0
        have kc1:=hSK.c1
        have kc2:=hSK.c2
        have kc3:=hSK.c3
        clear RP BT hSK
        go_wp2_with fail
        refine HRP.out.mono ?_
        rintro e W8 ⟨H8,x1,x2,x3,rfl,g8,t8,h8,n8,f8⟩
        have BT:=HBK'.out
        obtain ⟨p1,q1,p2,q2,p3,q3,rfl,rfl,rfl,_,_,_,_⟩:=n8.out
        obtain ⟨M1,hM1⟩:=exH rr.n.ks.length
        obtain ⟨M2,hM2⟩:=exH rr.n.vs.length
        obtain ⟨M3,hM3⟩:=exH rr.n.kd.length
        obtain ⟨ml,hml⟩:=exH rr.n.lf
        obtain ⟨me,hme⟩:=exH rr.e
        rw [hM1.out,hM2.out,hM3.out] at n8 f8
        rw [hM1.out,hM2.out,hM3.out,hml.out,hme.out]
        unfold nod
        have N8 : Nb W8 93 W1.heap.size false (.slice (some ⟨kb,ko,none⟩) L1 c1) (.slice a2 L2 c2) (.slice (some ⟨db,dof,none⟩) L1 c3):=HN7.out.tch t8 (fun e => e.elim BT.bn (fun e => e.elim (fun e => BT.ne _ (.inl e) rfl) (fun e => BT.ne _ (.inr (.inr e)) rfl)))
        obtain ⟨W9,hW9⟩:=exN ((((W8.setCell ⟨W1.heap.size,0,none⟩ (.bool ml)).setCell ⟨W1.heap.size,1,none⟩ (.slice p1 M1 q1)).setCell ⟨W1.heap.size,2,none⟩ (.slice p2 M2 q2)).setCell ⟨W1.heap.size,3,none⟩ (.slice p3 M3 q3))
        have N9 : Nb W9 93 W1.heap.size ml (.slice p1 M1 q1) (.slice p2 M2 q2) (.slice p3 M3 q3):=by rw [<- hW9]; exact N8.all _ _ _ _
        have t9 : Tch (fun y => y = W1.heap.size) W8 W9:=by rw [<- hW9]; exact zg9 _ _ _ _ _ _
        have nbx8 : ¬ H8 W1.heap.size:=fun e => (h8 _ e).elim BT.bn (fun e => by have:=BT.nb.lt; omega)
        have g9:=g8.tch t9 (fun y hy e => nbx8 (e ▸ hy))
        have T9 : Tch H w W9:=(BT.tc.trans t8 (fun y hy e => by
         rcases e with e | e | e
         ·exact (BT.hh y e).elim id (fun e => by omega)
         ·have:=BT.ow.fr y (.inl e); omega
         ·have:=BT.ow.fr y (.inr (.inr e)); omega)).trans t9 (fun y hy e => by have:=BT.bg; omega)
        have hh9 : ∀ k,H8 k -> H k ∨ w.heap.size <= k:=fun k hk => (h8 k hk).elim (BT.hh k) (fun e => .inr (zn2 BT.tc.size e))
        have xlo : ∀ j,((Value.slice p1 M1 q1).ownBlock = some j ∨ (Value.slice p2 M2 q2).ownBlock = some j ∨ (Value.slice p3 M3 q3).ownBlock = some j) -> j ≠ W1.heap.size /\ w.heap.size <= j:=fun j hj => by
         rcases (f8 j hj).1 with e | e | e | e
         ·exact ⟨BT.ne j (.inl e),BT.ow.fr j (.inl e)⟩
         ·exact ⟨BT.ne j (.inr (.inl e)),BT.ow.fr j (.inr (.inl e))⟩
         ·exact ⟨BT.ne j (.inr (.inr e)),BT.ow.fr j (.inr (.inr e))⟩
         ·have q1:=BT.nb.lt
          have q2:=BT.tc.size
          exact ⟨by omega,by omega⟩
        have n9:=n8.tch t9 (fun y hy e => (xlo y (.inl hy)).1 e) (fun y hy e => (xlo y (.inr (.inl hy))).1 e) (fun y hy e => (xlo y (.inr (.inr hy))).1 e)
        have PCE:=zas9 rr.n (.slice p1 M1 q1) (.slice p2 M2 q2) (.slice p3 M3 q3) (fun j => w.heap.size <= j /\ ¬ H8 j) W9 n9 HSZR.out.sm (fun j hj => ⟨(xlo j hj).2,(f8 j hj).2.1⟩) (fun j hj => zn1 (f8 j hj).2.2 t9.size)
        rw [hml.out] at PCE
        unfold nod at PCE
        have HPCE:=hideN PCE
        have HG9:=hideN g9
        have HT9:=hideN T9
        have HH9:=hideN hh9
        have yc0:=N8.c0
        have yc1:=N8.c1
        have yc2:=N8.c2
        have yc3:=N8.c3
        have yz0:=N8.fz 0
        have yz1:=N8.fz 1
        have yz2:=N8.fz 2
        have yz3:=N8.fz 3
        have zc0:=N9.c0
        have zc1:=N9.c1
        have zc2:=N9.c2
        have zc3:=N9.c3
        clear PCE BT n8 f8 t8 g8 h8 N8 N9 t9 nbx8 g9 T9 hh9 xlo n9 HRP kc0 kc1 kc2 kc3 HN7
        by_cases hme0 : me = 0
        ·subst hme0
         have HR2 : Hid (RR = ⟨0,piecesF rr.n,rr.a,rr.c⟩):=by
          show RR = _
          rw [HRR.out,if_neg (by rw [hme.out]; simp)]
         go_wp2_with fail
         refine HPCE.out.mono ?_
         rintro e WA ⟨vA',rfl,psA,bA⟩
         have HFIN : Hid (BelT H w t cc d M N b RR (.returned (.tuple #[vA',.int .i64 0])) WA /\ BlOk c (f + 1) RR):=by
          refine ⟨?_,HOKT.out⟩
          rw [HR2.out]
          refine ⟨H8,_,vA',rfl,HG9.out.below bA,HT9.out.trans (Tch.of_below (S:=H) bA) (fun _ _ e => e),HH9.out,psA,fun k hk => ?_⟩
          obtain ⟨hk1,hk2⟩:=hk
          rcases hk1 with ⟨q1,q2⟩ | q
          ·exact ⟨q1,hk2,q2⟩
          ·have:=HT9.out.size
           exact ⟨by omega,hk2,fun e => by have:=HG9.out.hl k e; omega⟩
         clear psA bA HPCE
         go_wp2_with fail
         go_ret2
         exact HFIN.out
        ·have df1 : (me == 0) = false:=by rw [beq_eq_false_iff_ne]; exact hme0
         have df2 : (me != 0) = true:=by rw [bne,df1]; rfl
         have HR2 : Hid (RR = ⟨me,[],rr.a,rr.c⟩):=by
          show RR = _
          rw [HRR.out,if_pos (by rw [hme.out]; exact hme0),hme.out]
         have HFIN : Hid (BelT H w t cc d M N b RR (.returned (.tuple #[.slice none 0 0,.int .i64 me])) W9 /\ BlOk c (f + 1) RR):=by
          refine ⟨?_,HOKT.out⟩
          rw [HR2.out]
          exact ⟨H8,fun _ => False,_,rfl,HG9.out,HT9.out,HH9.out,rfl,fun _ e => e.elim⟩
         clear hme0 HPCE
         go_wp2_with fail
         try rw [hW9]
         go_ret2
         exact HFIN.out
       ·have dg1 : (je == 0) = false:=by rw [beq_eq_false_iff_ne]; exact hje0
        have dg2 : (je != 0) = true:=by rw [bne,dg1]; rfl
        have HRR : Hid (RR = ⟨je,[],r.a,J.c⟩):=by
         show RR = _
         rw [HRJ.out,if_pos (by rw [hje.out]; exact hje0),hje.out]
        have HFIN : Hid (BelT H w t cc d M N b RR (.returned (.tuple #[.slice none 0 0,.int .i64 je])) WK /\ BlOk c (f + 1) RR):=by
         show _ /\ _
         rw [HRR.out]
         have k1:=HOK6.out.tk
         have k2:=HOK6.out.gn
         have k3:=HLC.out
         rw [k3.2.1] at k1
         have k4:=HJO.out.gn
         have k5:=HJO.out.tk
         exact ⟨⟨HJ,fun _ => False,_,rfl,HBK'.out.gz,HBK'.out.tc,HBK'.out.hh,rfl,fun _ e => e.elim⟩,zcs9 (by rw [k5]; omega) (by omega) (by rw [HJO.out.lv]; exact HOK6.out.lv)⟩
        clear hje0
        go_wp2_with fail
        go_ret2
        exact HFIN.out
      ·have dz : decide (sz < 120) = false:=decide_eq_false hz
       have hz' : Hid (120 <= sz):=by show _ <= _; omega
       clear b7 hz
       have BT:=HB7b.out
       have RP:=zaj9 n1 (.slice (some ⟨kb,ko,none⟩) L1 c1) (.slice a2 L2 c2) (.slice (some ⟨db,dof,none⟩) L1 c3) (.slice (some ⟨pb,0,none⟩) 1 1) p (p + 1) r.ps Zp W7b BT.gz (BT.ow.k.less (zn7 _)) BT.ow.v.rd (BT.ow.d.less (zn7 _)) BT.ap (fun k e => ⟨fun q => BT.ow.ap k q e,BT.ow.v.apart BT.ow.d (by decide) e⟩) (fun k e => BT.ow.lt k (.inr (.inl e))) HP7b.out (fun k hk => (HZ6.out k hk).2.1) (by omega) (by rw [hK1.out.1]; omega) (by rw [hK1.out.2.2]; omega) (by rw [hK1.out.1,hK1.out.2.2]; omega) HSP.out (by have:=HTK6.out.1; omega)
       unfold chp nod at RP
       rw [hcb.out,hlf1.out] at RP
       obtain ⟨rr,hrr⟩:=exH (replaceF r.a r.c n1 p (p + 1) r.ps)
       rw [hrr.out] at RP
       have HRP:=hideN RP
       have HSZR : Hid (SzT rr.n):=by
        rw [<- hrr.out]
        exact zag9 _ _ _ _ HN1O.out.1 HN1O.out.2 HSP.out HOK6.out.two
       have HRT : Hid (RR = tailF r.a r.c n1 p (p + 1) r.ps):=(by
        show RR = _
        rw [HRV.out,upF_no hre.out (by unfold jnP; rintro ⟨_,_,e⟩; rw [hgd.out,hsz.out] at e; have:=hz'.out; omega),hn1.out,hL1.out,hp.out])
       have HRR : Hid (RR = if rr.e ≠ 0 then ⟨rr.e,[],rr.a,rr.c⟩ else ⟨0,piecesF rr.n,rr.a,rr.c⟩):=by
        show RR = _
        rw [HRT.out]
        unfold tailF
        rw [hrr.out]
       have HOKT : Hid (BlOk c (f + 1) RR):=by
        show BlOk c (f + 1) RR
        rw [HRT.out]
        exact (HOK.out p (p + 1) r.ps r.c (zn6 _) (by omega) HOK6.out.lv HOK6.out.two HSP.out)
       have HN7:=hideN N7b
       have kc0:=N7b.c0
       have kc1:=N7b.c1
       have kc2:=N7b.c2
       have kc3:=N7b.c3
       clear RP BT N7b
       go_wp2_with fail
       refine HRP.out.mono ?_
       rintro e W8 ⟨H8,x1,x2,x3,rfl,g8,t8,h8,n8,f8⟩
       have BT:=HB7b.out
       obtain ⟨p1,q1,p2,q2,p3,q3,rfl,rfl,rfl,_,_,_,_⟩:=n8.out
       obtain ⟨M1,hM1⟩:=exH rr.n.ks.length
       obtain ⟨M2,hM2⟩:=exH rr.n.vs.length
       obtain ⟨M3,hM3⟩:=exH rr.n.kd.length
       obtain ⟨ml,hml⟩:=exH rr.n.lf
       obtain ⟨me,hme⟩:=exH rr.e
       rw [hM1.out,hM2.out,hM3.out] at n8 f8
       rw [hM1.out,hM2.out,hM3.out,hml.out,hme.out]
       unfold nod
       have N8 : Nb W8 93 W1.heap.size false (.slice (some ⟨kb,ko,none⟩) L1 c1) (.slice a2 L2 c2) (.slice (some ⟨db,dof,none⟩) L1 c3):=HN7.out.tch t8 (fun e => e.elim BT.bn (fun e => e.elim (fun e => BT.ne _ (.inl e) rfl) (fun e => BT.ne _ (.inr (.inr e)) rfl)))
       obtain ⟨W9,hW9⟩:=exN ((((W8.setCell ⟨W1.heap.size,0,none⟩ (.bool ml)).setCell ⟨W1.heap.size,1,none⟩ (.slice p1 M1 q1)).setCell ⟨W1.heap.size,2,none⟩ (.slice p2 M2 q2)).setCell ⟨W1.heap.size,3,none⟩ (.slice p3 M3 q3))
       have N9 : Nb W9 93 W1.heap.size ml (.slice p1 M1 q1) (.slice p2 M2 q2) (.slice p3 M3 q3):=by rw [<- hW9]; exact N8.all _ _ _ _
       have t9 : Tch (fun y => y = W1.heap.size) W8 W9:=by rw [<- hW9]; exact zg9 _ _ _ _ _ _
       have nbx8 : ¬ H8 W1.heap.size:=fun e => (h8 _ e).elim BT.bn (fun e => by have:=BT.nb.lt; omega)
       have g9:=g8.tch t9 (fun y hy e => nbx8 (e ▸ hy))
       have T9 : Tch H w W9:=(BT.tc.trans t8 (fun y hy e => by
        rcases e with e | e | e
        ·exact (BT.hh y e).elim id (fun e => by omega)
        ·have:=BT.ow.fr y (.inl e); omega
        ·have:=BT.ow.fr y (.inr (.inr e)); omega)).trans t9 (fun y hy e => by have:=BT.bg; omega)
       have hh9 : ∀ k,H8 k -> H k ∨ w.heap.size <= k:=fun k hk => (h8 k hk).elim (BT.hh k) (fun e => .inr (zn2 BT.tc.size e))
       have xlo : ∀ j,((Value.slice p1 M1 q1).ownBlock = some j ∨ (Value.slice p2 M2 q2).ownBlock = some j ∨ (Value.slice p3 M3 q3).ownBlock = some j) -> j ≠ W1.heap.size /\ w.heap.size <= j:=fun j hj => by
        rcases (f8 j hj).1 with e | e | e | e
        ·exact ⟨BT.ne j (.inl e),BT.ow.fr j (.inl e)⟩
        ·exact ⟨BT.ne j (.inr (.inl e)),BT.ow.fr j (.inr (.inl e))⟩
        ·exact ⟨BT.ne j (.inr (.inr e)),BT.ow.fr j (.inr (.inr e))⟩
        ·have q1:=BT.nb.lt
         have q2:=BT.tc.size
         exact ⟨by omega,by omega⟩
       have n9:=n8.tch t9 (fun y hy e => (xlo y (.inl hy)).1 e) (fun y hy e => (xlo y (.inr (.inl hy))).1 e) (fun y hy e => (xlo y (.inr (.inr hy))).1 e)
       have PCE:=zas9 rr.n (.slice p1 M1 q1) (.slice p2 M2 q2) (.slice p3 M3 q3) (fun j => w.heap.size <= j /\ ¬ H8 j) W9 n9 HSZR.out.sm (fun j hj => ⟨(xlo j hj).2,(f8 j hj).2.1⟩) (fun j hj => zn1 (f8 j hj).2.2 t9.size)
       rw [hml.out] at PCE
       unfold nod at PCE
       have HPCE:=hideN PCE
       have HG9:=hideN g9
       have HT9:=hideN T9
       have HH9:=hideN hh9
       have yc0:=N8.c0
       have yc1:=N8.c1
       have yc2:=N8.c2
       have yc3:=N8.c3
       have yz0:=N8.fz 0
       have yz1:=N8.fz 1
       have yz2:=N8.fz 2
       have yz3:=N8.fz 3
       have zc0:=N9.c0
       have zc1:=N9.c1
       have zc2:=N9.c2
       have zc3:=N9.c3
       clear PCE BT n8 f8 t8 g8 h8 N8 N9 t9 nbx8 g9 T9 hh9 xlo n9 HRP kc0 kc1 kc2 kc3 HN7
       by_cases hme0 : me = 0
       ·subst hme0
        have HR2 : Hid (RR = ⟨0,piecesF rr.n,rr.a,rr.c⟩):=by
         show RR = _
         rw [HRR.out,if_neg (by rw [hme.out]; simp)]
        go_wp2_with fail
        refine HPCE.out.mono ?_
        rintro e WA ⟨vA',rfl,psA,bA⟩
        have HFIN : Hid (BelT H w t cc d M N b RR (.returned (.tuple #[vA',.int .i64 0])) WA /\ BlOk c (f + 1) RR):=by
         refine ⟨?_,HOKT.out⟩
         rw [HR2.out]
         refine ⟨H8,_,vA',rfl,HG9.out.below bA,HT9.out.trans (Tch.of_below (S:=H) bA) (fun _ _ e => e),HH9.out,psA,fun k hk => ?_⟩
         obtain ⟨hk1,hk2⟩:=hk
         rcases hk1 with ⟨q1,q2⟩ | q
         ·exact ⟨q1,hk2,q2⟩
         ·have:=HT9.out.size
          exact ⟨by omega,hk2,fun e => by have:=HG9.out.hl k e; omega⟩
        clear psA bA HPCE
        go_wp2_with fail
        go_ret2
        exact HFIN.out
       ·have df1 : (me == 0) = false:=by rw [beq_eq_false_iff_ne]; exact hme0
        have df2 : (me != 0) = true:=by rw [bne,df1]; rfl
        have HR2 : Hid (RR = ⟨me,[],rr.a,rr.c⟩):=by
         show RR = _
         rw [HRR.out,if_pos (by rw [hme.out]; exact hme0),hme.out]
        have HFIN : Hid (BelT H w t cc d M N b RR (.returned (.tuple #[.slice none 0 0,.int .i64 me])) W9 /\ BlOk c (f + 1) RR):=by
         refine ⟨?_,HOKT.out⟩
         rw [HR2.out]
         exact ⟨H8,fun _ => False,_,rfl,HG9.out,HT9.out,HH9.out,rfl,fun _ e => e.elim⟩
        clear hme0 HPCE
        go_wp2_with fail
        try rw [hW9]
        go_ret2
        exact HFIN.out
     ·have dl1 : ((pl : Int) == 1) = false:=by rw [beq_eq_false_iff_ne]; omega
      have dl2 : decide ((pl : Int) = 1) = false:=by rw [zn4]; omega
      have BT:=HB7.out
      have RP:=zaj9 n1 (.slice (some ⟨kb,ko,none⟩) L1 c1) (.slice a2 L2 c2) (.slice (some ⟨db,dof,none⟩) L1 c3) (.slice va pl pl) p (p + 1) r.ps Zp W7 BT.gz (BT.ow.k.less (zn7 _)) BT.ow.v.rd (BT.ow.d.less (zn7 _)) BT.ap (fun k e => ⟨fun q => BT.ow.ap k q e,BT.ow.v.apart BT.ow.d (by decide) e⟩) (fun k e => BT.ow.lt k (.inr (.inl e))) HP7.out (fun k hk => (HZ6.out k hk).2.1) (by omega) (by rw [hK1.out.1]; omega) (by rw [hK1.out.2.2]; omega) (by rw [hK1.out.1,hK1.out.2.2]; omega) HSP.out (by have:=HTK6.out.1; omega)
      unfold chp nod at RP
      rw [hcb.out,hlf1.out] at RP
      obtain ⟨rr,hrr⟩:=exH (replaceF r.a r.c n1 p (p + 1) r.ps)
      rw [hrr.out] at RP
      have HRP:=hideN RP
      have HSZR : Hid (SzT rr.n):=by
       rw [<- hrr.out]
       exact zag9 _ _ _ _ HN1O.out.1 HN1O.out.2 HSP.out HOK6.out.two
      have HRT : Hid (RR = tailF r.a r.c n1 p (p + 1) r.ps):=(by
       show RR = _
       rw [HRV.out,upF_no hre.out (by unfold jnP; rintro ⟨_,e,_⟩; exact h1 (by rw [<- hpl.out]; exact e)),hn1.out,hL1.out,hp.out])
      have HRR : Hid (RR = if rr.e ≠ 0 then ⟨rr.e,[],rr.a,rr.c⟩ else ⟨0,piecesF rr.n,rr.a,rr.c⟩):=by
       show RR = _
       rw [HRT.out]
       unfold tailF
       rw [hrr.out]
      have HOKT : Hid (BlOk c (f + 1) RR):=by
       show BlOk c (f + 1) RR
       rw [HRT.out]
       exact (HOK.out p (p + 1) r.ps r.c (zn6 _) (by omega) HOK6.out.lv HOK6.out.two HSP.out)
      have HN7:=hideN N7
      have kc0:=N7.c0
      have kc1:=N7.c1
      have kc2:=N7.c2
      have kc3:=N7.c3
      clear RP BT N7
      have wp1:=HWP.out.1
      have wp2:=HWP.out.2
      go_wp2_with fail
      clear wp1 wp2
      refine HRP.out.mono ?_
      rintro e W8 ⟨H8,x1,x2,x3,rfl,g8,t8,h8,n8,f8⟩
      have BT:=HB7.out
      obtain ⟨p1,q1,p2,q2,p3,q3,rfl,rfl,rfl,_,_,_,_⟩:=n8.out
      obtain ⟨M1,hM1⟩:=exH rr.n.ks.length
      obtain ⟨M2,hM2⟩:=exH rr.n.vs.length
      obtain ⟨M3,hM3⟩:=exH rr.n.kd.length
      obtain ⟨ml,hml⟩:=exH rr.n.lf
      obtain ⟨me,hme⟩:=exH rr.e
      rw [hM1.out,hM2.out,hM3.out] at n8 f8
      rw [hM1.out,hM2.out,hM3.out,hml.out,hme.out]
      unfold nod
      have N8 : Nb W8 93 W1.heap.size false (.slice (some ⟨kb,ko,none⟩) L1 c1) (.slice a2 L2 c2) (.slice (some ⟨db,dof,none⟩) L1 c3):=HN7.out.tch t8 (fun e => e.elim BT.bn (fun e => e.elim (fun e => BT.ne _ (.inl e) rfl) (fun e => BT.ne _ (.inr (.inr e)) rfl)))
      obtain ⟨W9,hW9⟩:=exN ((((W8.setCell ⟨W1.heap.size,0,none⟩ (.bool ml)).setCell ⟨W1.heap.size,1,none⟩ (.slice p1 M1 q1)).setCell ⟨W1.heap.size,2,none⟩ (.slice p2 M2 q2)).setCell ⟨W1.heap.size,3,none⟩ (.slice p3 M3 q3))
      have N9 : Nb W9 93 W1.heap.size ml (.slice p1 M1 q1) (.slice p2 M2 q2) (.slice p3 M3 q3):=by rw [<- hW9]; exact N8.all _ _ _ _
      have t9 : Tch (fun y => y = W1.heap.size) W8 W9:=by rw [<- hW9]; exact zg9 _ _ _ _ _ _
      have nbx8 : ¬ H8 W1.heap.size:=fun e => (h8 _ e).elim BT.bn (fun e => by have:=BT.nb.lt; omega)
      have g9:=g8.tch t9 (fun y hy e => nbx8 (e ▸ hy))
      have T9 : Tch H w W9:=(BT.tc.trans t8 (fun y hy e => by
       rcases e with e | e | e
       ·exact (BT.hh y e).elim id (fun e => by omega)
       ·have:=BT.ow.fr y (.inl e); omega
       ·have:=BT.ow.fr y (.inr (.inr e)); omega)).trans t9 (fun y hy e => by have:=BT.bg; omega)
      have hh9 : ∀ k,H8 k -> H k ∨ w.heap.size <= k:=fun k hk => (h8 k hk).elim (BT.hh k) (fun e => .inr (zn2 BT.tc.size e))
      have xlo : ∀ j,((Value.slice p1 M1 q1).ownBlock = some j ∨ (Value.slice p2 M2 q2).ownBlock = some j ∨ (Value.slice p3 M3 q3).ownBlock = some j) -> j ≠ W1.heap.size /\ w.heap.size <= j:=fun j hj => by
       rcases (f8 j hj).1 with e | e | e | e
       ·exact ⟨BT.ne j (.inl e),BT.ow.fr j (.inl e)⟩
       ·exact ⟨BT.ne j (.inr (.inl e)),BT.ow.fr j (.inr (.inl e))⟩
       ·exact ⟨BT.ne j (.inr (.inr e)),BT.ow.fr j (.inr (.inr e))⟩
       ·have q1:=BT.nb.lt
        have q2:=BT.tc.size
        exact ⟨by omega,by omega⟩
      have n9:=n8.tch t9 (fun y hy e => (xlo y (.inl hy)).1 e) (fun y hy e => (xlo y (.inr (.inl hy))).1 e) (fun y hy e => (xlo y (.inr (.inr hy))).1 e)
      have PCE:=zas9 rr.n (.slice p1 M1 q1) (.slice p2 M2 q2) (.slice p3 M3 q3) (fun j => w.heap.size <= j /\ ¬ H8 j) W9 n9 HSZR.out.sm (fun j hj => ⟨(xlo j hj).2,(f8 j hj).2.1⟩) (fun j hj => zn1 (f8 j hj).2.2 t9.size)
      rw [hml.out] at PCE
      unfold nod at PCE
      have HPCE:=hideN PCE
      have HG9:=hideN g9
      have HT9:=hideN T9
      have HH9:=hideN hh9
      have yc0:=N8.c0
      have yc1:=N8.c1
      have yc2:=N8.c2
      have yc3:=N8.c3
      have yz0:=N8.fz 0
      have yz1:=N8.fz 1
      have yz2:=N8.fz 2
      have yz3:=N8.fz 3
      have zc0:=N9.c0
      have zc1:=N9.c1
      have zc2:=N9.c2
      have zc3:=N9.c3
      clear PCE BT n8 f8 t8 g8 h8 N8 N9 t9 nbx8 g9 T9 hh9 xlo n9 HRP kc0 kc1 kc2 kc3 HN7
      by_cases hme0 : me = 0
      ·subst hme0
       have HR2 : Hid (RR = ⟨0,piecesF rr.n,rr.a,rr.c⟩):=by
        show RR = _
        rw [HRR.out,if_neg (by rw [hme.out]; simp)]
       go_wp2_with fail
       refine HPCE.out.mono ?_
       rintro e WA ⟨vA',rfl,psA,bA⟩
       have HFIN : Hid (BelT H w t cc d M N b RR (.returned (.tuple #[vA',.int .i64 0])) WA /\ BlOk c (f + 1) RR):=by
        refine ⟨?_,HOKT.out⟩
        rw [HR2.out]
        refine ⟨H8,_,vA',rfl,HG9.out.below bA,HT9.out.trans (Tch.of_below (S:=H) bA) (fun _ _ e => e),HH9.out,psA,fun k hk => ?_⟩
        obtain ⟨hk1,hk2⟩:=hk
        rcases hk1 with ⟨q1,q2⟩ | q
        ·exact ⟨q1,hk2,q2⟩
        ·have:=HT9.out.size
         exact ⟨by omega,hk2,fun e => by have:=HG9.out.hl k e; omega⟩
       clear psA bA HPCE
       go_wp2_with fail
       go_ret2
       exact HFIN.out
      ·have df1 : (me == 0) = false:=by rw [beq_eq_false_iff_ne]; exact hme0
       have df2 : (me != 0) = true:=by rw [bne,df1]; rfl
       have HR2 : Hid (RR = ⟨me,[],rr.a,rr.c⟩):=by
        show RR = _
        rw [HRR.out,if_pos (by rw [hme.out]; exact hme0),hme.out]
       have HFIN : Hid (BelT H w t cc d M N b RR (.returned (.tuple #[.slice none 0 0,.int .i64 me])) W9 /\ BlOk c (f + 1) RR):=by
        refine ⟨?_,HOKT.out⟩
        rw [HR2.out]
        exact ⟨H8,fun _ => False,_,rfl,HG9.out,HT9.out,HH9.out,rfl,fun _ e => e.elim⟩
       clear hme0 HPCE
       go_wp2_with fail
       try rw [hW9]
       go_ret2
       exact HFIN.out
   ·have de1 : (re == 0) = false:=by rw [beq_eq_false_iff_ne]; exact hre0
    have de2 : (re != 0) = true:=by rw [bne,de1]; rfl
    have HRR : Hid (RR = ⟨re,[],r.a,r.c⟩):=by
     show RR = _
     rw [HRV.out,ztz9 (by rw [hre.out]; exact hre0),hre.out]
    have HFIN : Hid (BelT H w t cc d M N b RR (.returned (.tuple #[.slice none 0 0,.int .i64 re])) W6 /\ BlOk c (f + 1) RR):=by
     show _ /\ _
     rw [HRR.out]
     have k1:=HOK6.out.tk
     have k2:=HOK6.out.gn
     have k3:=HLC.out
     rw [k3.2.1] at k1
     exact ⟨⟨H6,fun _ => False,_,rfl,B6.gz,B6.tc,B6.hh,rfl,fun _ e => e.elim⟩,zcs9 (by omega) (by omega) HOK6.out.lv⟩
    clear hre0 B6
    go_wp2_with fail
    go_ret2
    exact HFIN.out
  ·have e4 : W4.cell? ⟨cb,4,none⟩ = some (.int .i64 ((leaveF a c x).lv : Int)):=by rw [<- hcb.out]; exact B4.gz.c4
   have e4f : W4.frozen? ⟨cb,4,none⟩ = false:=by rw [<- hcb.out]; exact B4.gz.fz 4
   obtain ⟨W5,hW5⟩:=exN (W4.setCell ⟨cb,4,none⟩ (.int .i64 (lv : Int)))
   obtain ⟨g5,t5⟩:=B4.gz.setLv lv
   rw [hcb.out,hW5] at g5 t5
   have B5:=(B4.move g5 t5 (fun _ e => .inl e)).drew
   have c2' : W5.drew.cell? ⟨cb,2,none⟩ = some (.func (.func g) #[] caps):=by rw [<- hcb.out,<- HFV.out]; exact B5.gz.c2
   have N5 : Nb W5.drew 93 W1.heap.size true (.slice a1 L1 c1) (.slice a2 L2 c2) (.slice a3 L3 c3):=by rw [<- hlf.out]; exact B5.nb
   have hS : W5.drew.cell? ⟨cb,2,none⟩ = some (.func (.func g) #[] caps) /\ Nb W5.drew 93 W1.heap.size true (.slice a1 L1 c1) (.slice a2 L2 c2) (.slice a3 L3 c3):=⟨c2',N5⟩
   have HRR : Hid (RR = ⟨0,piecesF (D.lf n),a,{ leaveF a c x with lv:=lv }⟩):=by
    show RR = _
    rw [HR0.out,if_neg (by simp),if_pos hlf.out]
   have HOK : Hid (BlOk c (f + 1) RR):=by
    show BlOk c (f + 1) RR
    rw [HRR.out]
    exact zmi9 HC.out HV.out hlf.out x hlv.2
   have HSTY:=hideN (HS.out.on B5.tc B5.hh)
   have hwl:=B5.tc.size
   have HAT:=hideN (HCT.out n _ _ _ W5.drew w.heap.size (fun k hk => (HSTY.out k hk).2.2) (fun k hk => (HS.out k hk).1) hwl B5.ow HV.out.sm (by have:=HV.out.len; omega) (HV.out.leaf hlf.out).1)
   rw [hlf.out] at HAT
   have HB5:=hideN B5
   have hSD:=HC.out.sz n HV.out.sz HV.out.len.1 (HV.out.leaf hlf.out).1
   have HST6 : Hid (∀ (W6 : World) (y1 y2 y3 : Value),Ow3 w.heap.size W6 (D.lf n) y1 y2 y3 -> Tch (fun k => (Value.slice a1 L1 c1).ownBlock = some k ∨ (Value.slice a2 L2 c2).ownBlock = some k) W5.drew W6 -> (∀ j,(y1.ownBlock = some j ∨ y2.ownBlock = some j ∨ y3.ownBlock = some j) -> ((Value.slice a1 L1 c1).ownBlock = some j ∨ (Value.slice a2 L2 c2).ownBlock = some j ∨ (Value.slice a3 L3 c3).ownBlock = some j) ∨ W5.drew.heap.size <= j) →
     (W6.cell? ⟨cb,2,none⟩ = some (.func (.func g) #[] caps) /\ Nb W6 93 W1.heap.size true (.slice a1 L1 c1) (.slice a2 L2 c2) (.slice a3 L3 c3)) ∧
     (Calls Tryz.prog 142 #[nod (D.lf n).lf y1 y2 y3] W6 fun e w' => ∃ v,e = .returned v /\ Ps (fun j => (w.heap.size <= j /\ ¬ H4 j ∨ W6.heap.size <= j) /\ j < w'.heap.size) w' v (piecesF (D.lf n)) /\ Below W6.heap.size W6 w') ∧
     (∀ (W7 : World) (v : Value),Ps (fun j => (w.heap.size <= j /\ ¬ H4 j ∨ W6.heap.size <= j) /\ j < W7.heap.size) W7 v (piecesF (D.lf n)) -> Below W6.heap.size W6 W7 -> BelT H w t cc d M N b RR (.returned (.tuple #[v,.int .i64 0])) W7 /\ BlOk c (f + 1) RR)):=by
    intro W6 y1 y2 y3 ow6 t6 f6
    have B5:=HB5.out
    have hcbH : H4 cb:=by rw [<- hcb.out]; exact B5.gz.hcb
    have t6' : Tch (fun k => (Value.slice a1 L1 c1).ownBlock = some k ∨ (Value.slice a2 L2 c2).ownBlock = some k ∨ (Value.slice a3 L3 c3).ownBlock = some k) W5.drew W6:=t6.mono (fun k _ e => e.elim .inl (fun e => .inr (.inl e)))
    have g6:=B5.gz.tch t6' (fun k hk e => B5.ap k e hk)
    have apy : ∀ j,(y1.ownBlock = some j ∨ y2.ownBlock = some j ∨ y3.ownBlock = some j) -> w.heap.size <= j /\ ¬ H4 j:=fun j hj => ⟨ow6.fr j hj,fun e => (f6 j hj).elim (fun q => B5.ap j q e) (fun q => by have:=B5.gz.hl j e; omega)⟩
    refine ⟨⟨?_,?_⟩,zas9 (D.lf n) y1 y2 y3 _ W6 ow6.nn hSD.sm apy ow6.lt,fun W7 v ps7 b7 => ⟨?_,HOK.out⟩⟩
    ·rw [t6'.cell (p:=⟨cb,2,none⟩) (World.block_lt_of_cell? W5.drew ⟨cb,2,none⟩ c2') (fun e => B5.ap cb e hcbH)]; exact c2'
    ·exact N5.tch t6' (fun e => B5.ne W1.heap.size e rfl)
    ·rw [HRR.out]
     refine ⟨H4,_,v,rfl,g6.below b7,(B5.tc.trans t6' (fun y hy e => by have:=B5.ow.fr y e; omega)).trans (Tch.of_below (S:=H) b7) (fun _ _ e => e),B5.hh,ps7,fun k hk => ?_⟩
     obtain ⟨hk1,hk2⟩:=hk
     rcases hk1 with ⟨q1,q2⟩ | q
     ·exact ⟨q1,hk2,q2⟩
     ·have h65:=t6'.size
      exact ⟨by omega,hk2,fun e => by have:=B5.gz.hl k e; omega⟩
   clear B4 g5 t5 B5 c2' N5 hSD hwl N4
   go_wp2_with fail
   try rw [hW5]
   have mixed : Tryz.prog.follows .mixedOrders = true:=by kernel_rfl
   refine beginW (S:=fun w' => w'.cell? ⟨cb,2,none⟩ = some (.func (.func g) #[] caps) /\ Nb w' 93 W1.heap.size true (.slice a1 L1 c1) (.slice a2 L2 c2) (.slice a3 L3 c3)) (t:=8) mixed ?_
   refine tkW 0 (some 36) (.move (.tmp 0)) (Value.pointer (some ⟨cb,0,none⟩)) (by rintro o ho w' ⟨z1,z2⟩; go_simp) hS ?_
   simp only [Act.put,qa,qb,qc]
   refine tkW 1 (some 37) (.nilCheck (.tmp 36)) (Value.pointer (some ⟨cb,0,none⟩)) (by rintro o ho w' ⟨z1,z2⟩; go_simp) hS ?_
   simp only [Act.put,qa,qb,qc]
   refine tkW 2 (some 38) (.fieldAddr 114 (.tmp 37) 2) (Value.pointer (some ⟨cb,2,none⟩)) (by rintro o ho w' ⟨z1,z2⟩; go_simp) hS ?_
   simp only [Act.put,qa,qb,qc]
   refine tkW 3 (some 39) (.load 112 (.tmp 38)) (Value.func (.func g) #[] caps) (by rintro o ho w' ⟨z1,z2⟩; go_simp) hS ?_
   simp only [Act.put,qa,qb,qc]
   refine tkW 4 (some 40) (.load 93 (.tmp 8)) (nod true (.slice a1 L1 c1) (.slice a2 L2 c2) (.slice a3 L3 c3)) ?hy hS ?_
   case hy =>
    rintro o ho w' ⟨z1,z2⟩
    have q0:=z2.c0; have q1:=z2.c1; have q2:=z2.c2; have q3:=z2.c3
    unfold nod
    go_simp
   simp only [Act.put,qa,qb,qc]
   refine rdW 5 (some 41) (.call { callee:=.value (.tmp 39),args:=#[.tmp 40],argTypes:=#[93] }) ?_
   rintro o K hd ho hg hK
   refine zfq9 HEN.out ho (caps:=caps) (by rfl) (vs:=#[nod true (.slice a1 L1 c1) (.slice a2 L2 c2) (.slice a3 L3 c3)]) (by kernel_rfl) HAT.out ?_
   rintro e W6 ⟨y1,y2,y3,rfl,ow6,t6,f6⟩
   refine ⟨_,rfl,?_⟩
   rw [hd]
   obtain ⟨hS6,HP6⟩:=HST6.out W6 y1 y2 y3 ow6 t6 f6
   clear hS
   have hS:=hS6
   refine hK _ _ (fun _ => hS) ?_
   clear ho hd hg hK ow6 t6 f6
   simp only [Act.put,qa,qb,qc]
   refine rdW 6 (some 42) (.call { callee:=.value (.func 142),args:=#[.tmp 41],argTypes:=#[93] }) ?_
   rintro o K hd ho hg hK
   refine zd9 (enters_of Tryz.func142 (by kernel_rfl) rfl) ho (vs:=#[nod (D.lf n).lf y1 y2 y3]) (by kernel_rfl) HP6.1 ?_
   rintro e W7 ⟨v7,rfl,ps7,b7⟩
   refine ⟨_,rfl,?_⟩
   rw [hd]
   have hS7 : W7.cell? ⟨cb,2,none⟩ = some (.func (.func g) #[] caps) /\ Nb W7 93 W1.heap.size true (.slice a1 L1 c1) (.slice a2 L2 c2) (.slice a3 L3 c3):=⟨by rw [b7.cell (World.block_lt_of_cell? W6 ⟨cb,2,none⟩ hS.1)]; exact hS.1,hS.2.below b7⟩
   have HFIN:=hideN (HP6.2 W7 v7 ps7 b7)
   refine hK _ _ (fun _ => hS7) ?_
   clear ho hd hg hK HP6 hS hS6
   simp only [Act.put,qa,qb,qc]
   refine rdW 7 (some 6) (.assign (.tmp 42)) ?_
   rintro o K hd ho hg hK
   refine stepY (v:=v7) ?hy ?_
   case hy => go_simp
   rw [hd]
   refine hK _ _ (fun _ => hS7) ?_
   clear ho hd hg hK
   simp only [Act.put,qa,qb,qc]
   refine rdW 8 (some 7) (.assign (.const (.int .i64 0))) ?_
   rintro o K hd ho hg hK
   refine stepY (v:=Value.int .i64 0) ?hy ?_
   case hy => go_simp
   rw [hd]
   refine hK _ _ (fun e => absurd rfl e) ?_
   clear ho hd hg hK
   simp only [Act.put,qa,qb,qc]
   refine doneW (by kernel_rfl) ?_ _
   clear hS7
   go_wp2_with fail
   go_ret2
   exact HFIN.out
 ·have de1 : (er == 0) = false:=by rw [beq_eq_false_iff_ne]; exact h0
  have de2 : (er != 0) = true:=by rw [bne,de1]; rfl
  have HRR : Hid (RR = ⟨er,[],a,c⟩):=by
   show RR = _
   rw [HR0.out,if_pos h0]
  have HFIN : Hid (BelT H w t cc d M N b RR (.returned (.tuple #[.slice none 0 0,.int .i64 er])) W3 /\ BlOk c (f + 1) RR):=by
   show _ /\ _
   rw [HRR.out]
   exact ⟨⟨H1,fun _ => False,_,rfl,B3.gz,B3.tc,B3.hh,rfl,fun _ e => e.elim⟩,zcs9 (by omega) (by omega) HCL.out⟩
  clear h0 B3 NC HEN HCT
  go_wp2_with fail
  try rw [hW3]
  go_ret2
  exact HFIN.out
end
end Go.Proofs.YtjhccpijpffahaaGreat
