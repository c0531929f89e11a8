import Derived.Test.YtcbnmjgbnbokgaaGreatPTMem
import Derived.Test.YtcbnmjgbnbokgaaGreatPDMap
import Derived.Test.YtcbnmjgbnbokgaaGreatPANew
import Derived.Test.YtcbnmjgbnbokgaaGreatPKOwn
import Derived.Test.YtcbnmjgbnbokgaaGreatPTRow
set_option maxRecDepth 100000
set_option linter.unusedVariables false
set_option linter.unusedSimpArgs false
set_option maxHeartbeats 8000000
namespace Go.Proofs.YtcbnmjgbnbokgaaGreat
open Go.RowKit Go.Maps
noncomputable def as0 (n : Nat) : AS:={ V:=vwD (DS.new (50 + n)),Q:=vwD (DS.new (50 + n)),A:=Ah.new 50 (50 + n),F:=fun _ => false }
structure Lw (U : Nat -> Prop) (w : World) (b t c d M N : Nat) (a : AS) (root : Int) (lv : Value) : Prop where
 bx : w.heap[b]? = some (.cells #[dp d,cp c,mp M,tp t,.int .i64 root,lv] 37 (0,0))
 tz : Tz U w t c d M N a
 nb : ¬ U b
section
variable {U : Nat -> Prop} {w w' : World} {b t c d M N : Nat} {a a' : AS} {root : Int} {lv : Value}
theorem Lw.lt (h : Lw U w b t c d M N a root lv) : b < w.heap.size:=(Array.getElem?_eq_some_iff.1 h.bx).1
theorem Lw.cl (h : Lw U w b t c d M N a root lv) (i : Nat) : w.cell? ⟨b,i,none⟩ = #[dp d,cp c,mp M,tp t,.int .i64 root,lv][i]?:=cell_of_row w b i _ _ (0,0) h.bx
theorem Lw.to (h : Lw U w b t c d M N a root lv) (hz : TzTo U w w' t c d M N a') : ∃ U',Lw U' w' b t c d M N a' root lv /\ Tch U w w' /\ ∀ k,U' k -> U k ∨ w.heap.size <= k:=by
 obtain ⟨U',z,tt,hu⟩:=hz
 exact ⟨U',⟨by rw [tt.block b h.lt h.nb]; exact h.bx,z,fun e => (hu b e).elim h.nb (fun e => by have:=h.lt; omega)⟩,tt,hu⟩
theorem Lw.tch (h : Lw U w b t c d M N a root lv) {S : Nat -> Prop} (ht : Tch S w w') (hn : ∀ k,U k -> ¬ S k) (hb : ¬ S b) : Lw U w' b t c d M N a root lv:=
 ⟨by rw [ht.block b h.lt hb]; exact h.bx,h.tz.tch ht hn,h.nb⟩
theorem Lw.below (h : Lw U w b t c d M N a root lv) (hb : Below w.heap.size w w') : Lw U w' b t c d M N a root lv:=h.tch (S:=fun _ => False) (Tch.of_below hb) (fun _ _ e => e) (fun e => e)
end
def pkT (c : Int) (n : Nat) : Nat:=(if c < 0 then (-(c + 1)).toNat else c.toNat) % n
theorem pkT_lt (c : Int) {n : Nat} (h : 0 < n) : pkT c n < n:=Nat.mod_lt _ h
theorem zhc9 (c : Int) (n : Nat) (h0 : 0 < n) (hn : n < 1000000) (hc : (Lit.int .i64 c).wf = true) (w : World) :
  Calls Tryz.prog 10 #[.int .i64 c,.int .i64 (n : Int)] w fun e w' => e = .returned (.int .i64 (pkT c n : Int)) /\ w' = w:=by
 have hw : -9223372036854775808 <= c /\ c <= 9223372036854775807:=by simpa [Lit.wf,IntKind.min,IntKind.max,IntKind.signed,IntKind.bits] using hc
 have hb0 : ((n : Int) == 0) = false:=by rw [beq_eq_false_iff_ne]; omega
 have hbm : ((n : Int) == -1) = false:=by rw [beq_eq_false_iff_ne]; omega
 have hn0 : (0 : Int) < (n : Int):=by omega
 obtain ⟨h1,h2⟩:=hw
 clear hc
 by_cases h : c < 0
 ·obtain ⟨x,hx⟩ : ∃ x : Nat,-(c + 1) = (x : Int):=⟨(-(c + 1)).toNat,by omega⟩
  have HP : Hid (pkT c n = x % n):=by show _ = _; unfold pkT; rw [if_pos h,hx]; rfl
  have hc1 : c + 1 = -(x : Int):=by omega
  have HX : Hid ((x : Int).tmod (n : Int) = ((x % n : Nat) : Int)):=rfl
  have hm : ((x % n : Nat) : Int) < (n : Int):=by have:=Nat.mod_lt x h0; omega
  have hx63 : (x : Int) <= 9223372036854775807:=by omega
  rw [HP.out]
  go_enter Tryz.func10,Tryz.ntmps10
  go_wp2_with fail
  go_ret
  exact ⟨by first | rfl | simp,rfl⟩
 ·obtain ⟨x,hx⟩ : ∃ x : Nat,c = (x : Int):=⟨c.toNat,by omega⟩
  subst hx
  have HP : Hid (pkT (x : Int) n = x % n):=by show _ = _; unfold pkT; rw [if_neg h]; rfl
  rw [HP.out]
  go_enter Tryz.func10,Tryz.ntmps10
  go_wp2_with fail
  go_ret
  exact ⟨by first | rfl | simp,rfl⟩
theorem ziz9 (n : Nat) (h1 : 1 <= n) (h2 : n <= 4000) (w : World) :
  Calls Tryz.prog 9 #[.int .i64 (n : Int)] w fun e w' => ∃ U b t c d M,e = .returned (.pointer (some ⟨b,0,none⟩)) /\ Lw U w' b t c d M (50 + n) (as0 n) 0 (.slice none 0 0) /\ (∀ k,U k -> w.heap.size <= k) /\ w.heap.size <= b /\ Below w.heap.size w w':=by
 have hw1:=wk_nat (x:=(50 : Int) + (n : Int)) (t:=50 + n) (by omega) (by omega)
 have hw2:=zr9 (x:=(50 : Int) + (n : Int)) (t:=50 + n) (by omega) (by omega)
 have DN:=new_ok (50 + n) w (by omega) (by omega)
 have HDN:=hideN DN
 have KN : Hid (∀ (d : Nat) (W : World),Calls Tryz.prog 34 #[dp d,.int .i64 5] W fun e w' => ∃ c X,e = .returned (.tuple #[cp c,.int .i64 0]) /\ Ch X w' c d (50 + n) (CS.new 5) /\ Below W.heap.size W w' /\ ∀ k,X k -> W.heap.size <= k):=fun d W => zrz9 d (50 + n) 5 W (by omega) (by omega) (by omega)
 have AN : Hid (∀ (W : World),Calls Tryz.prog 35 #[.int .i64 50,.int .i64 ((50 + n : Nat) : Int)] W fun e w' => ∃ M,e = .returned (.tuple #[mp M,.int .i64 0]) /\ Pm w' M (Ah.new 50 (50 + n)) (fun k => W.heap.size <= k /\ k < w'.heap.size) /\ Below W.heap.size W w'):=fun W => zsb9 50 (50 + n) (by omega) (by omega) W
 have H40 : Hid (n <= 4000):=h2
 have HWW : Hid (IntKind.i64.wrap ((50 : Int) + (n : Int)) = ((50 + n : Nat) : Int) /\ wrap64 ((50 : Int) + (n : Int)) = ((50 + n : Nat) : Int)):=⟨hw1,hw2⟩
 clear DN h1 h2
 go_enter Tryz.func9,Tryz.ntmps9
 go_wp2_with fail
 clear hw1 hw2
 refine HDN.out.mono ?_
 rintro e W1 ⟨d,S,rfl,hd,b1,hS⟩
 have KK:=KN.out d W1
 have HKK:=hideN KK
 clear KK
 have HD:=hideN hd
 have HB1:=hideN b1
 have HS:=hideN hS
 clear hd b1 hS HDN
 go_wp2_with fail
 refine HKK.out.mono ?_
 rintro e W2 ⟨c,X,rfl,hc,b2,hX⟩
 have AA:=AN.out W2
 have HAA:=hideN AA
 have HC:=hideN hc
 have HB2:=hideN b2
 have HX:=hideN hX
 have hw1:=HWW.out.1
 have hw2:=HWW.out.2
 clear AA hc b2 hX HKK
 go_wp2_with fail
 clear hw1 hw2
 refine HAA.out.mono ?_
 rintro e W3 ⟨M,rfl,hm,b3⟩
 have TN:=zsa9 c M (50 + n) W3
 have HTN:=hideN TN
 have HM:=hideN hm
 have HB3:=hideN b3
 clear TN hm b3 HAA
 go_wp2_with fail
 refine HTN.out.mono ?_
 rintro e W4 ⟨t,fb,rfl,bx4,fm4,ht,hf,b4⟩
 obtain ⟨W5,hW5⟩:=exN (W4.alloc (.cells #[.pointer (some ⟨d,0,none⟩),.pointer (some ⟨c,0,none⟩),.pointer (some ⟨M,0,none⟩),.pointer (some ⟨t,0,none⟩),.int .i64 0,.slice none 0 0] 37))
 have b5 : Below W4.heap.size W4 W5:=by rw [<- hW5]; exact za9 _ _
 have bx5 : W5.heap[W4.heap.size]? = some (.cells #[dp d,cp c,mp M,tp t,.int .i64 0,.slice none 0 0] 37 (0,0)):=by rw [<- hW5]; exact heap_alloc_new W4 _
 have HFIN : Hid (∃ U b t' c' d' M',(.returned (.pointer (some ⟨W4.heap.size,0,none⟩)) : Ending) = .returned (.pointer (some ⟨b,0,none⟩)) /\ Lw U W5 b t' c' d' M' (50 + n) (as0 n) 0 (.slice none 0 0) /\ (∀ k,U k -> w.heap.size <= k) /\ w.heap.size <= b /\ Below w.heap.size w W5):=by
  have s1:=HB1.out.size
  have s2:=HB2.out.size
  have s3:=HB3.out.size
  have s4:=b4.size
  have s5:=b5.size
  have b12:=HB1.out.trans (HB2.out.mono HB1.out.size)
  have b13:=b12.trans (HB3.out.mono b12.size)
  have b14:=b13.trans (b4.mono b13.size)
  have b15:=b14.trans (b5.mono b14.size)
  have dk2:=HD.out.below HB2.out
  have cz : Cz X S W2 c d (50 + n) (CS.new 5) (DS.new (50 + n)):=⟨HC.out,dk2,by simp [DS.new],fun k hk e => by have:=HX.out k hk; have:=HD.out.slt k e; omega⟩
  have cz3:=cz.below HB3.out
  have xl:=HC.out
  have hxl : ∀ k,X k -> k < W2.heap.size:=fun k hk => by obtain ⟨_,_,_,q⟩:=HC.out; exact q.xlt k hk
  have hsl:=HD.out.slt
  have coh : Coh (CS.new 5) (DS.new (50 + n)):=fun m hm => by simp [CS.new] at hm
  have tz4 : TzAt (fun k => w.heap.size <= k /\ k < W4.heap.size) W4 t c d M (50 + n) (as0 n) fb X S (fun k => W2.heap.size <= k /\ k < W3.heap.size) (CS.new 5) (DS.new (50 + n)):={
   box:=bx4
   cz:=cz3.below b4
   pm:=Pm.tch HM.out (S:=fun _ => False) (Tch.of_below b4) (fun _ _ e => e)
   fm:=fm4
   xy:=fun k hk e => by have:=hxl k hk; omega
   sy:=fun k hk e => by have:=hsl k hk; omega
   nt:=⟨fun e => by have:=hxl _ e; omega,fun e => by have:=hsl _ e; omega,fun e => by omega⟩
   nf:=⟨fun e => by have:=hxl _ e; omega,fun e => by have:=hsl _ e; omega,fun e => by omega⟩
   ux:=fun k hk => by
    have ht4:=(Array.getElem?_eq_some_iff.1 bx4).1
    have hf4:=fm4.lt
    rcases hk with e | e | e | e | e
    ·have:=hxl k e; have:=HX.out k e; exact ⟨by omega,by omega⟩
    ·have:=hsl k e; have:=HS.out k e; exact ⟨by omega,by omega⟩
    ·exact ⟨by omega,by omega⟩
    ·exact ⟨by omega,by omega⟩
    ·exact ⟨by omega,by omega⟩
   ul:=fun k hk => hk.2
   ok:=⟨rfl,by show 50 + (List.replicate _ _).length = _; rw [List.length_replicate]; omega,fun x hx => (by cases hx),by
    funext y
    exact (zer9 coh (.inl (by simp [CS.new]))).symm,rfl,coh⟩ }
  exact ⟨_,W4.heap.size,t,c,d,M,rfl,⟨bx5,(show Tz _ W4 t c d M (50 + n) (as0 n) from ⟨_,_,_,_,_,_,tz4⟩).below b5,fun e => by omega⟩,fun k hk => hk.1,by omega,b15⟩
 have HW5:=hideN hW5
 clear bx4 fm4 ht hf b4 b5 bx5 hW5 HTN
 go_wp2_with fail
 try rw [HW5.out]
 go_ret
 exact HFIN.out
end Go.Proofs.YtcbnmjgbnbokgaaGreat
