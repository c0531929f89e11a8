import Derived.Test.YtjhccpijpffahaaGreatPTMem
import Derived.Test.YtjhccpijpffahaaGreatPDMap
import Derived.Test.YtjhccpijpffahaaGreatPDReg
import Derived.Test.YtjhccpijpffahaaGreatPKOwn
import Derived.Test.YtjhccpijpffahaaGreatPTRow
import Derived.Test.YtjhccpijpffahaaGreatPTRfM
import Derived.Test.YtjhccpijpffahaaGreatPTPl
import Derived.Test.YtjhccpijpffahaaGreatPTPs
import Derived.Laws.StructEq
import Derived.ChangeKeysEq
import Derived.Deep.QuietTactic
set_option maxRecDepth 100000
set_option linter.unusedVariables false
set_option linter.unusedSimpArgs false
set_option maxHeartbeats 8000000
namespace Go.Proofs.YtjhccpijpffahaaGreat
open Go.RowKit Go.Maps
noncomputable def as0 (n : Nat) : AS:={ V:=vwD (DS.new (50 + n)),Q:=vwD (DS.new (50 + n)),A:=Ah.new 50 (50 + n),F:=fun _ => false }
structure Lw (U : Nat -> Prop) (w : World) (b t c d M N : Nat) (a : AS) (root : Int) (lv : Value) : Prop where
 bx : w.heap[b]? = some (.cells #[dp d,cp c,mp M,tp t,.int .i64 root,lv] 37 (0,0))
 tz : Tz U w t c d M N a
 nb : ¬ U b
section
variable {U : Nat -> Prop} {w w' : World} {b t c d M N : Nat} {a a' : AS} {root : Int} {lv : Value}
theorem Lw.lt (h : Lw U w b t c d M N a root lv) : b < w.heap.size:=(Array.getElem?_eq_some_iff.1 h.bx).1
theorem Lw.cl (h : Lw U w b t c d M N a root lv) (i : Nat) : w.cell? ⟨b,i,none⟩ = #[dp d,cp c,mp M,tp t,.int .i64 root,lv][i]?:=cell_of_row w b i _ _ (0,0) h.bx
theorem Lw.to (h : Lw U w b t c d M N a root lv) (hz : TzTo U w w' t c d M N a') : ∃ U',Lw U' w' b t c d M N a' root lv /\ Tch U w w' /\ ∀ k,U' k -> U k ∨ w.heap.size <= k:=by
 obtain ⟨U',z,tt,hu⟩:=hz
 exact ⟨U',⟨by rw [tt.block b h.lt h.nb]; exact h.bx,z,fun e => (hu b e).elim h.nb (fun e => by have:=h.lt; omega)⟩,tt,hu⟩
theorem Lw.tch (h : Lw U w b t c d M N a root lv) {S : Nat -> Prop} (ht : Tch S w w') (hn : ∀ k,U k -> ¬ S k) (hb : ¬ S b) : Lw U w' b t c d M N a root lv:=
 ⟨by rw [ht.block b h.lt hb]; exact h.bx,h.tz.tch ht hn,h.nb⟩
theorem Lw.below (h : Lw U w b t c d M N a root lv) (hb : Below w.heap.size w w') : Lw U w' b t c d M N a root lv:=h.tch (S:=fun _ => False) (Tch.of_below hb) (fun _ _ e => e) (fun e => e)
end
def pkT (c : Int) (n : Nat) : Nat:=(if c < 0 then (-(c + 1)).toNat else c.toNat) % n
theorem pkT_lt (c : Int) {n : Nat} (h : 0 < n) : pkT c n < n:=Nat.mod_lt _ h
theorem znj9 (c : Int) (n : Nat) (h0 : 0 < n) (hn : n < 1000000) (hc : (Lit.int .i64 c).wf = true) (w : World) :
  Calls Tryz.prog 10 #[.int .i64 c,.int .i64 (n : Int)] w fun e w' => e = .returned (.int .i64 (pkT c n : Int)) /\ w' = w:=by
 have hw : -9223372036854775808 <= c /\ c <= 9223372036854775807:=by simpa [Lit.wf,IntKind.min,IntKind.max,IntKind.signed,IntKind.bits] using hc
 have hb0 : ((n : Int) == 0) = false:=by rw [beq_eq_false_iff_ne]; omega
 have hbm : ((n : Int) == -1) = false:=by rw [beq_eq_false_iff_ne]; omega
 have hn0 : (0 : Int) < (n : Int):=by omega
 obtain ⟨h1,h2⟩:=hw
 clear hc
 by_cases h : c < 0
 ·obtain ⟨x,hx⟩ : ∃ x : Nat,-(c + 1) = (x : Int):=⟨(-(c + 1)).toNat,by omega⟩
  have HP : Hid (pkT c n = x % n):=by show _ = _; unfold pkT; rw [if_pos h,hx]; rfl
  have hc1 : c + 1 = -(x : Int):=by omega
  have HX : Hid ((x : Int).tmod (n : Int) = ((x % n : Nat) : Int)):=rfl
  have hm : ((x % n : Nat) : Int) < (n : Int):=by have:=Nat.mod_lt x h0; omega
  have hx63 : (x : Int) <= 9223372036854775807:=by omega
  rw [HP.out]
  go_enter Tryz.func10,Tryz.ntmps10
  go_wp2_with fail
  go_ret
  exact ⟨by first | rfl | simp,rfl⟩
 ·obtain ⟨x,hx⟩ : ∃ x : Nat,c = (x : Int):=⟨c.toNat,by omega⟩
  subst hx
  have HP : Hid (pkT (x : Int) n = x % n):=by show _ = _; unfold pkT; rw [if_neg h]; rfl
  rw [HP.out]
  go_enter Tryz.func10,Tryz.ntmps10
  go_wp2_with fail
  go_ret
  exact ⟨by first | rfl | simp,rfl⟩
theorem zjh9 (n : Nat) (h1 : 1 <= n) (h2 : n <= 4000) (w : World) :
  Calls Tryz.prog 9 #[.int .i64 (n : Int)] w fun e w' => ∃ U b t c d M,e = .returned (.pointer (some ⟨b,0,none⟩)) /\ Lw U w' b t c d M (50 + n) (as0 n) 0 (.slice none 0 0) /\ (∀ k,U k -> w.heap.size <= k) /\ w.heap.size <= b /\ Below w.heap.size w w':=by
 have hw1:=wk_nat (x:=(50 : Int) + (n : Int)) (t:=50 + n) (by omega) (by omega)
 have hw2:=zs9 (x:=(50 : Int) + (n : Int)) (t:=50 + n) (by omega) (by omega)
 have DN:=new_ok (50 + n) w (by omega) (by omega)
 have HDN:=hideN DN
 have KN : Hid (∀ (d : Nat) (W : World),Calls Tryz.prog 34 #[dp d,.int .i64 5] W fun e w' => ∃ c X,e = .returned (.tuple #[cp c,.int .i64 0]) /\ Ch X w' c d (50 + n) (CS.new 5) /\ Below W.heap.size W w' /\ ∀ k,X k -> W.heap.size <= k):=fun d W => zte9 d (50 + n) 5 W (by omega) (by omega) (by omega)
 have AN : Hid (∀ (W : World),Calls Tryz.prog 35 #[.int .i64 50,.int .i64 ((50 + n : Nat) : Int)] W fun e w' => ∃ M,e = .returned (.tuple #[mp M,.int .i64 0]) /\ Pm w' M (Ah.new 50 (50 + n)) (fun k => W.heap.size <= k /\ k < w'.heap.size) /\ Below W.heap.size W w'):=fun W => ztg9 50 (50 + n) (by omega) (by omega) W
 have H40 : Hid (n <= 4000):=h2
 have HWW : Hid (IntKind.i64.wrap ((50 : Int) + (n : Int)) = ((50 + n : Nat) : Int) /\ wrap64 ((50 : Int) + (n : Int)) = ((50 + n : Nat) : Int)):=⟨hw1,hw2⟩
 clear DN h1 h2
 go_enter Tryz.func9,Tryz.ntmps9
 go_wp2_with fail
 clear hw1 hw2
 refine HDN.out.mono ?_
 rintro e W1 ⟨d,S,rfl,hd,b1,hS⟩
 have KK:=KN.out d W1
 have HKK:=hideN KK
 clear KK
 have HD:=hideN hd
 have HB1:=hideN b1
 have HS:=hideN hS
 clear hd b1 hS HDN
 go_wp2_with fail
 refine HKK.out.mono ?_
 rintro e W2 ⟨c,X,rfl,hc,b2,hX⟩
 have AA:=AN.out W2
 have HAA:=hideN AA
 have HC:=hideN hc
 have HB2:=hideN b2
 have HX:=hideN hX
 have hw1:=HWW.out.1
 have hw2:=HWW.out.2
 clear AA hc b2 hX HKK
 go_wp2_with fail
 clear hw1 hw2
 refine HAA.out.mono ?_
 rintro e W3 ⟨M,rfl,hm,b3⟩
 have TN:=ztf9 c M (50 + n) W3
 have HTN:=hideN TN
 have HM:=hideN hm
 have HB3:=hideN b3
 clear TN hm b3 HAA
 go_wp2_with fail
 refine HTN.out.mono ?_
 rintro e W4 ⟨t,fb,rfl,bx4,fm4,ht,hf,b4⟩
 obtain ⟨W5,hW5⟩:=exN (W4.alloc (.cells #[.pointer (some ⟨d,0,none⟩),.pointer (some ⟨c,0,none⟩),.pointer (some ⟨M,0,none⟩),.pointer (some ⟨t,0,none⟩),.int .i64 0,.slice none 0 0] 37))
 have b5 : Below W4.heap.size W4 W5:=by rw [<- hW5]; exact za9 _ _
 have bx5 : W5.heap[W4.heap.size]? = some (.cells #[dp d,cp c,mp M,tp t,.int .i64 0,.slice none 0 0] 37 (0,0)):=by rw [<- hW5]; exact heap_alloc_new W4 _
 have HFIN : Hid (∃ U b t' c' d' M',(.returned (.pointer (some ⟨W4.heap.size,0,none⟩)) : Ending) = .returned (.pointer (some ⟨b,0,none⟩)) /\ Lw U W5 b t' c' d' M' (50 + n) (as0 n) 0 (.slice none 0 0) /\ (∀ k,U k -> w.heap.size <= k) /\ w.heap.size <= b /\ Below w.heap.size w W5):=by
  have s1:=HB1.out.size
  have s2:=HB2.out.size
  have s3:=HB3.out.size
  have s4:=b4.size
  have s5:=b5.size
  have b12:=HB1.out.trans (HB2.out.mono HB1.out.size)
  have b13:=b12.trans (HB3.out.mono b12.size)
  have b14:=b13.trans (b4.mono b13.size)
  have b15:=b14.trans (b5.mono b14.size)
  have dk2:=HD.out.below HB2.out
  have cz : Cz X S W2 c d (50 + n) (CS.new 5) (DS.new (50 + n)):=⟨HC.out,dk2,by simp [DS.new],fun k hk e => by have:=HX.out k hk; have:=HD.out.slt k e; omega⟩
  have cz3:=cz.below HB3.out
  have xl:=HC.out
  have hxl : ∀ k,X k -> k < W2.heap.size:=fun k hk => by obtain ⟨_,_,_,q⟩:=HC.out; exact q.xlt k hk
  have hsl:=HD.out.slt
  have coh : Coh (CS.new 5) (DS.new (50 + n)):=fun m hm => by simp [CS.new] at hm
  have tz4 : TzAt (fun k => w.heap.size <= k /\ k < W4.heap.size) W4 t c d M (50 + n) (as0 n) fb X S (fun k => W2.heap.size <= k /\ k < W3.heap.size) (CS.new 5) (DS.new (50 + n)):={
   box:=bx4
   cz:=cz3.below b4
   pm:=Pm.tch HM.out (S:=fun _ => False) (Tch.of_below b4) (fun _ _ e => e)
   fm:=fm4
   xy:=fun k hk e => by have:=hxl k hk; omega
   sy:=fun k hk e => by have:=hsl k hk; omega
   nt:=⟨fun e => by have:=hxl _ e; omega,fun e => by have:=hsl _ e; omega,fun e => by omega⟩
   nf:=⟨fun e => by have:=hxl _ e; omega,fun e => by have:=hsl _ e; omega,fun e => by omega⟩
   ux:=fun k hk => by
    have ht4:=(Array.getElem?_eq_some_iff.1 bx4).1
    have hf4:=fm4.lt
    rcases hk with e | e | e | e | e
    ·have:=hxl k e; have:=HX.out k e; exact ⟨by omega,by omega⟩
    ·have:=hsl k e; have:=HS.out k e; exact ⟨by omega,by omega⟩
    ·exact ⟨by omega,by omega⟩
    ·exact ⟨by omega,by omega⟩
    ·exact ⟨by omega,by omega⟩
   ul:=fun k hk => hk.2
   ok:=⟨rfl,by show 50 + (List.replicate _ _).length = _; rw [List.length_replicate]; omega,fun x hx => (by cases hx),by
    funext y
    exact (zex9 coh (.inl (by simp [CS.new]))).symm,rfl,coh⟩ }
  exact ⟨_,W4.heap.size,t,c,d,M,rfl,⟨bx5,(show Tz _ W4 t c d M (50 + n) (as0 n) from ⟨_,_,_,_,_,_,tz4⟩).below b5,fun e => by omega⟩,fun k hk => hk.1,by omega,b15⟩
 have HW5:=hideN hW5
 clear bx4 fm4 ht hf b4 b5 bx5 hW5 HTN
 go_wp2_with fail
 try rw [HW5.out]
 go_ret
 exact HFIN.out
end Go.Proofs.YtjhccpijpffahaaGreat
namespace Go.Proofs.YtjhccpijpffahaaGreat
open Go.RowKit Go.Maps Pl
theorem zfs9 (l : List E2) {k : Nat} (h : k < l.length) : l.take (k + 1) = l.take k ++ [l.getD k eZ]:=take_succ' eZ l k h
theorem zqt9 {key val : ByteArray} {L : List E2} {e : E2} : e ∈ insE key val L ↔ e = (key,val) ∨ (e ∈ L /\ e.1 ≠ key):=by
 unfold insE
 rw [List.mem_append,List.mem_cons,List.mem_filter,List.mem_filter]
 constructor
 ·rintro (⟨h1,h2⟩ | h | ⟨h1,h2⟩)
  ·exact .inr ⟨h1,Kl.ne h2⟩
  ·exact .inl h
  ·exact .inr ⟨h1,(Kl.ne h2).symm⟩
 ·rintro (h | ⟨h1,h2⟩)
  ·exact .inr (.inl h)
  ·rcases k_tri e.1 key with t | t | t
   ·exact .inl ⟨h1,t⟩
   ·exact absurd t h2
   ·exact .inr (.inr ⟨h1,t⟩)
section
variable {ops : Array Oper} {rest : List Oper} {o : Oper} {a : Act} {Q : Exit -> Act -> World -> Prop}
theorem zaw9 (w : World) (hgd : o.guard = none) (s x : Operand) (ho : o.op = .call { callee:=.builtin .append,args:=#[s,x],argTypes:=#[35,35] })
  (B : Nat) (v : Value) (ps : List En) (hs : a.eval s = v) (hown : OwE B w v ps) (g : Nat) (p : En) (hx : a.eval x = .slice (some ⟨g,0,none⟩) 1 1) (h0 : w.cell? ⟨g,0,none⟩ = some (.string p.1)) (h1 : w.cell? ⟨g,1,none⟩ = some (.string p.2)) (hl : ps.length <= 1000000000) (hB : B <= w.heap.size)
  (h : ∀ v' w',OwE B w' v' (ps ++ [p]) -> Tch (fun k => v.ownBlock = some k) w w' -> Fsh w v v' -> wpList Tryz.prog ops Q rest (a.put o.dst v') w') : wpList Tryz.prog ops Q (o :: rest) a w:=by
 refine wpList_plain hgd fun K hK => ?_
 exact zrn9 s x ho B v ps hs hown g p hx h0 h1 hl hB (fun v' w' q1 q2 q3 => hK _ _ (h v' w' q1 q2 q3))
end
structure OdAt (w : World) (b t c d M N : Nat) (a : AS) (v : Value) (own : List E2) (W : World) (U : Nat -> Prop) : Prop where
 lw : Lw U W b t c d M N a 0 (.slice none 0 0)
 bl : Below w.heap.size w W
 ug : ∀ k,U k -> w.heap.size <= k
 bg : w.heap.size <= b
 ow : OwE w.heap.size W v own
 nu : ∀ j,v.ownBlock = some j -> ¬ U j /\ j ≠ b
def Od (w : World) (b t c d M N : Nat) (a : AS) (v : Value) (own : List E2) (W : World) : Prop:=∃ U,OdAt w b t c d M N a v own W U
section
variable {w W W' : World} {b t c d M N : Nat} {a a' : AS} {v v' : Value} {own own' : List E2} {U : Nat -> Prop}
theorem OdAt.at {U' : Nat -> Prop} (h : OdAt w b t c d M N a v own W U) (z : Tz U' W' t c d M N a') (tt : Tch U W W') (hu : ∀ k,U' k -> U k ∨ W.heap.size <= k) : OdAt w b t c d M N a' v own W' U':=by
 have l : Lw U' W' b t c d M N a' 0 (.slice none 0 0):=⟨by rw [tt.block b h.lw.lt h.lw.nb]; exact h.lw.bx,z,fun e => (hu b e).elim h.lw.nb (fun e => by have:=h.lw.lt; omega)⟩
 refine ⟨l,h.bl.trans (tt.below h.bl.size (fun k hk => h.ug k hk)),fun k hk => (hu k hk).elim (h.ug k) (fun e => by have:=h.bl.size; omega),h.bg,h.ow.tch tt (fun j hj => (h.nu j hj).1),fun j hj => ⟨fun e => ?_,(h.nu j hj).2⟩⟩
 rcases hu j e with q | q
 ·exact (h.nu j hj).1 q
 ·have:=h.ow.lt j hj; omega
theorem OdAt.to (h : OdAt w b t c d M N a v own W U) (hz : TzTo U W W' t c d M N a') : Od w b t c d M N a' v own W':=by
 obtain ⟨U',z,tt,hu⟩:=hz
 exact ⟨U',h.at z tt hu⟩
theorem OdAt.below (h : OdAt w b t c d M N a v own W U) (hb : Below W.heap.size W W') : OdAt w b t c d M N a v own W' U:=
 ⟨h.lw.below hb,h.bl.trans (hb.mono h.bl.size),h.ug,h.bg,h.ow.below hb,h.nu⟩
theorem Od.below (h : Od w b t c d M N a v own W) (hb : Below W.heap.size W W') : Od w b t c d M N a v own W':=by obtain ⟨U,h⟩:=h; exact ⟨U,h.below hb⟩
theorem Od.drew (h : Od w b t c d M N a v own W) : Od w b t c d M N a v own W.drew:=h.below (Below.refl _ _).drew
theorem Od.bl (h : Od w b t c d M N a v own W) : Below w.heap.size w W:=by obtain ⟨U,h⟩:=h; exact h.bl
theorem Od.ow (h : Od w b t c d M N a v own W) : OwE w.heap.size W v own:=by obtain ⟨U,h⟩:=h; exact h.ow
theorem Od.cell (h : Od w b t c d M N a v own W) : W.cell? ⟨b,3,none⟩ = some (tp t) /\ W.cell? ⟨b,2,none⟩ = some (mp M):=by obtain ⟨U,h⟩:=h; exact ⟨by rw [h.lw.cl]; rfl,by rw [h.lw.cl]; rfl⟩
theorem Od.calls {f : FuncId} {args : Array Value} {r : Value} {g : AS -> AS} (h : Od w b t c d M N a v own W) (hc : ∀ U,Tz U W t c d M N a -> Calls Tryz.prog f args W fun e w' => e = .returned r /\ TzTo U W w' t c d M N (g a)) : Calls Tryz.prog f args W fun e w' => e = .returned r /\ Od w b t c d M N (g a) v own w':=by
 obtain ⟨U,h⟩:=h
 refine (hc U h.lw.tz).mono ?_
 rintro e w' ⟨rfl,z⟩
 exact ⟨rfl,h.to z⟩
end
end Go.Proofs.YtjhccpijpffahaaGreat
