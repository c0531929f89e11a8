import Derived.Test.YtjhccpijpffahaaGreatPTMem
import Derived.Test.YtjhccpijpffahaaGreatPNWr
import Derived.Deep.RegionHeld3
set_option maxRecDepth 100000
set_option linter.unusedVariables false
set_option linter.unusedSimpArgs false
set_option maxHeartbeats 8000000
namespace Go.Proofs.YtjhccpijpffahaaGreat
open Go.RowKit Go.Maps Pl
structure CB where
 cb : Nat
 fv : Value
 key : ByteArray
 jn : Bool
structure CgAt (w : World) (t N : Nat) (b : CB) (c : CH) (vt vg : Value) : Prop where
 box : w.heap[b.cb]? = some (.cells #[tp t,.string b.key,b.fv,.bool b.jn,.int .i64 (c.lv : Int),vt,vg] 114 (0,0))
 tk : OwV 0 3 w vt (nums c.tk)
 gn : OwV 0 3 w vg (nums c.gn)
 ap : ∀ j,vt.ownBlock = some j -> vg.ownBlock ≠ some j
 wf : ∀ x,x ∈ c.tk ∨ x ∈ c.gn -> 50 <= x /\ x < (N : Int)
structure GzAt (H : Nat -> Prop) (w : World) (t cc d M N : Nat) (a : AS) (b : CB) (c : CH) (U : Nat -> Prop) (vt vg : Value) : Prop where
 tz : Tz U w t cc d M N a
 cg : CgAt w t N b c vt vg
 un : ∀ k,(k = b.cb ∨ vt.ownBlock = some k ∨ vg.ownBlock = some k) -> ¬ U k
 hx : ∀ k,(U k ∨ k = b.cb ∨ vt.ownBlock = some k ∨ vg.ownBlock = some k) -> H k
 hl : ∀ k,H k -> k < w.heap.size
def Gz (H : Nat -> Prop) (w : World) (t cc d M N : Nat) (a : AS) (b : CB) (c : CH) : Prop:=∃ U vt vg,GzAt H w t cc d M N a b c U vt vg
def GzTo (H : Nat -> Prop) (w w' : World) (t cc d M N : Nat) (a : AS) (b : CB) (c : CH) : Prop:=∃ H',Gz H' w' t cc d M N a b c /\ Tch H w w' /\ ∀ k,H' k -> H k ∨ w.heap.size <= k
abbrev chp (b : CB) : Value:=.pointer (some ⟨b.cb,0,none⟩)
section
variable {H U : Nat -> Prop} {w w' : World} {t cc d M N : Nat} {a a' : AS} {b : CB} {c c' : CH} {vt vg : Value}
theorem CgAt.lt (h : CgAt w t N b c vt vg) : b.cb < w.heap.size:=(Array.getElem?_eq_some_iff.1 h.box).1
theorem CgAt.cell (h : CgAt w t N b c vt vg) (i : Nat) : w.cell? ⟨b.cb,i,none⟩ = #[tp t,.string b.key,b.fv,.bool b.jn,.int .i64 (c.lv : Int),vt,vg][i]?:=cell_of_row w b.cb i _ _ (0,0) h.box
theorem CgAt.fz (h : CgAt w t N b c vt vg) (i : Nat) : w.frozen? ⟨b.cb,i,none⟩ = false:=frozen_of_row w b.cb i _ _ h.box
theorem CgAt.net (h : CgAt w t N b c vt vg) : vt.ownBlock ≠ some b.cb:=h.tk.ne h.box (by decide)
theorem CgAt.neg (h : CgAt w t N b c vt vg) : vg.ownBlock ≠ some b.cb:=h.gn.ne h.box (by decide)
theorem CgAt.tch (h : CgAt w t N b c vt vg) {S : Nat -> Prop} (ht : Tch S w w') (hn : ∀ k,(k = b.cb ∨ vt.ownBlock = some k ∨ vg.ownBlock = some k) -> ¬ S k) : CgAt w' t N b c vt vg:=
 ⟨by rw [ht.block b.cb h.lt (hn _ (.inl rfl))]; exact h.box,h.tk.tch ht (fun j e => hn j (.inr (.inl e))),h.gn.tch ht (fun j e => hn j (.inr (.inr e))),h.ap,h.wf⟩
theorem GzAt.tch (h : GzAt H w t cc d M N a b c U vt vg) {S : Nat -> Prop} (ht : Tch S w w') (hn : ∀ k,H k -> ¬ S k) : GzAt H w' t cc d M N a b c U vt vg:=
 ⟨h.tz.tch ht (fun k hk => hn k (h.hx k (.inl hk))),h.cg.tch ht (fun k hk => hn k (h.hx k (.inr hk))),h.un,h.hx,fun k hk => zn1 (h.hl k hk) ht.size⟩
theorem Gz.tch (h : Gz H w t cc d M N a b c) {S : Nat -> Prop} (ht : Tch S w w') (hn : ∀ k,H k -> ¬ S k) : Gz H w' t cc d M N a b c:=by
 obtain ⟨U,vt,vg,h⟩:=h
 exact ⟨U,vt,vg,h.tch ht hn⟩
theorem Gz.below (h : Gz H w t cc d M N a b c) (hb : Below w.heap.size w w') : Gz H w' t cc d M N a b c:=h.tch (S:=fun _ => False) (Tch.of_below hb) (fun _ _ e => e)
theorem Gz.hl (h : Gz H w t cc d M N a b c) : ∀ k,H k -> k < w.heap.size:=by obtain ⟨_,_,_,h⟩:=h; exact h.hl
theorem Gz.hcb (h : Gz H w t cc d M N a b c) : H b.cb:=by obtain ⟨_,_,_,h⟩:=h; exact h.hx _ (.inr (.inl rfl))
theorem Gz.to (h : Gz H w t cc d M N a b c) : GzTo H w w t cc d M N a b c:=⟨H,h,Tch.refl _ _,fun _ e => .inl e⟩
theorem Gz.to_below (h : Gz H w t cc d M N a b c) (hb : Below w.heap.size w w') : GzTo H w w' t cc d M N a b c:=⟨H,h.below hb,Tch.of_below hb,fun _ e => .inl e⟩
theorem Gz.c0 (h : Gz H w t cc d M N a b c) : w.cell? ⟨b.cb,0,none⟩ = some (tp t):=by obtain ⟨_,_,_,h⟩:=h; rw [h.cg.cell]; rfl
theorem Gz.c1 (h : Gz H w t cc d M N a b c) : w.cell? ⟨b.cb,1,none⟩ = some (.string b.key):=by obtain ⟨_,_,_,h⟩:=h; rw [h.cg.cell]; rfl
theorem Gz.c2 (h : Gz H w t cc d M N a b c) : w.cell? ⟨b.cb,2,none⟩ = some b.fv:=by obtain ⟨_,_,_,h⟩:=h; rw [h.cg.cell]; rfl
theorem Gz.c3 (h : Gz H w t cc d M N a b c) : w.cell? ⟨b.cb,3,none⟩ = some (.bool b.jn):=by obtain ⟨_,_,_,h⟩:=h; rw [h.cg.cell]; rfl
theorem Gz.c4 (h : Gz H w t cc d M N a b c) : w.cell? ⟨b.cb,4,none⟩ = some (.int .i64 (c.lv : Int)):=by obtain ⟨_,_,_,h⟩:=h; rw [h.cg.cell]; rfl
theorem Gz.fz (h : Gz H w t cc d M N a b c) (i : Nat) : w.frozen? ⟨b.cb,i,none⟩ = false:=by obtain ⟨_,_,_,h⟩:=h; exact h.cg.fz i
theorem GzTo.after {H0 : Nat -> Prop} {w0 : World} (ht : Tch H0 w0 w) (hx : ∀ k,H k -> H0 k ∨ w0.heap.size <= k) (h : GzTo H w w' t cc d M N a b c) : GzTo H0 w0 w' t cc d M N a b c:=by
 obtain ⟨H',h1,h2,h3⟩:=h
 refine ⟨H',h1,ht.trans h2 (fun k hk e => ?_),fun k hk => ?_⟩
 ·rcases hx k e with e | e
  ·exact e
  ·omega
 ·rcases h3 k hk with e | e
  ·exact hx k e
  ·exact .inr (zn2 ht.size e)
theorem GzAt.tzTo (h : GzAt H w t cc d M N a b c U vt vg) (hT : TzTo U w w' t cc d M N a') : ∃ U',GzAt (fun k => H k ∨ U' k) w' t cc d M N a' b c U' vt vg /\ Tch U w w' /\ (∀ k,U' k -> U k ∨ w.heap.size <= k):=by
 obtain ⟨U',h1,h2,h3⟩:=hT
 have hlt : ∀ k,(k = b.cb ∨ vt.ownBlock = some k ∨ vg.ownBlock = some k) -> k < w.heap.size:=fun k hk => h.hl k (h.hx k (.inr hk))
 refine ⟨U',⟨h1,h.cg.tch h2 (fun k hk => h.un k hk),fun k hk e => ?_,fun k hk => ?_,fun k hk => ?_⟩,h2,h3⟩
 ·rcases h3 k e with q | q
  ·exact h.un k hk q
  ·have:=hlt k hk; omega
 ·exact hk.elim .inr (fun e => .inl (h.hx k (.inr e)))
 ·rcases hk with e | e
  ·exact zn1 (h.hl k e) h2.size
  ·exact h1.ul k e
theorem GzAt.toTz (h : GzAt H w t cc d M N a b c U vt vg) (hT : TzTo U w w' t cc d M N a') : GzTo H w w' t cc d M N a' b c:=by
 obtain ⟨U',h1,h2,h3⟩:=h.tzTo hT
 exact ⟨_,⟨U',vt,vg,h1⟩,h2.mono (fun k _ e => h.hx k (.inl e)),fun k hk => hk.elim .inl (fun e => (h3 k e).imp (fun q => h.hx k (.inl q)) id)⟩
theorem zaz9 (x : Int) (hx : (Lit.int .i64 x).wf = true) (w : World) (G : Gz H w t cc d M N a b c) (hl : c.gn.length <= 100000) :
  Calls Tryz.prog 159 #[chp b,.int .i64 x] w fun e w' => e = .returned (.tuple #[]) /\ GzTo H w w' t cc d M N a b (leaveF a c x):=by
 obtain ⟨U,vt,vg,h⟩:=G
 have HG:=hideN h
 have HN:=hideN (zmv9 x hx w h.tz)
 have c0 : w.cell? ⟨b.cb,0,none⟩ = some (tp t):=by rw [h.cg.cell]; rfl
 obtain ⟨cb,hcb⟩:=exH b.cb
 obtain ⟨cl,hcl⟩:=exN (leaveF a c x)
 unfold leaveF at hcl
 cases hF : a.F x with
 | false =>
  rw [hF] at HN hcl
  rw [if_neg (by decide)] at hcl
  subst hcl
  have HGo : Hid (leaveF a c x = c):=by show _ = _; unfold leaveF; rw [hF,if_neg (by decide)]
  rw [HGo.out]
  unfold chp
  rw [hcb.out] at c0 ⊢
  clear h hF hx
  go_enter Tryz.func159,Tryz.ntmps159
  go_wp2_with fail
  refine HN.out.mono ?_
  rintro e w1 ⟨rfl,b1⟩
  have HB:=hideN b1
  clear b1 c0 HN
  go_wp2_with fail
  go_end0
  exact ⟨rfl,Gz.to_below ⟨U,vt,vg,HG.out⟩ HB.out⟩
 | true =>
  rw [hF] at HN
  have HGo : Hid (leaveF a c x = { c with gn:=c.gn ++ [x] }):=by show _ = _; unfold leaveF; rw [hF,if_pos rfl]
  rw [HGo.out]
  have HFR : Hid (50 <= x /\ x < (N : Int)):=h.tz.fr x hF
  clear hcl
  obtain ⟨ga,gc,hvg⟩:=h.cg.gn.long
  rw [zn9] at hvg
  have HL:=hideN hl
  obtain ⟨gl,hgl⟩:=exH c.gn.length
  rw [hgl.out] at hvg
  subst hvg
  unfold chp
  rw [hcb.out] at c0 ⊢
  clear h hF hx hl
  go_enter Tryz.func159,Tryz.ntmps159
  go_wp2_with fail
  refine HN.out.mono ?_
  rintro e w1 ⟨rfl,b1⟩
  have HG1:=hideN (HG.out.tch (S:=fun _ => False) (Tch.of_below b1) (fun _ _ e => e))
  have HB:=hideN b1
  have c6 : w1.cell? ⟨cb,6,none⟩ = some (.slice ga gl gc):=by rw [<- hcb.out,HG1.out.cg.cell]; rfl
  obtain ⟨W2,hW2⟩:=exN (w1.alloc (.cells #[.int .i64 x] 3))
  have b2 : Below w1.heap.size w1 W2:=by rw [<- hW2]; exact za9 _ _
  have HG2:=hideN (HG1.out.tch (S:=fun _ => False) (Tch.of_below b2) (fun _ _ e => e))
  have k2 : Hid (W2.cell? ⟨w1.heap.size,0,none⟩ = some (.int .i64 x)):=by show _ = _; rw [<- hW2,cell_of_row _ w1.heap.size 0 _ _ (0,0) (heap_alloc_new w1 _)]; rfl
  have HB2:=hideN b2
  clear b1 c0 HN b2
  go_wp2_with (at_builtin; refine zaa9 56 3 (.int .i64 0) 8 elemIN _ rfl (.tmp 14) (.tmp 16) rfl 0 _ (nums c.gn) rfl HG2.out.cg.gn w1.heap.size (.int .i64 x) rfl rfl k2.out (by rw [zn9]; have:=HL.out; omega) (by rw [zn9]; have:=HL.out; omega) (zn7 _) ?_; intro v' w3 ho hg hf; refine Hid.out ?_)
  refine hideN ?_
  have HO:=hideN ho
  have HFs:=hideN hf
  have HT3 : Hid (Tch (fun k => (Value.slice ga gl gc).ownBlock = some k) W2 w3):=hg.tch
  have hnb : (Value.slice ga gl gc).ownBlock ≠ some cb:=by rw [<- hcb.out]; exact HG2.out.cg.neg
  have bx3 : w3.heap[cb]? = some (.cells #[tp t,.string b.key,b.fv,.bool b.jn,.int .i64 (c.lv : Int),vt,.slice ga gl gc] 114 (0,0)):=by
   rw [HT3.out.block cb (by rw [<- hcb.out]; exact HG2.out.cg.lt) hnb,<- hcb.out]; exact HG2.out.cg.box
  have d6 : w3.cell? ⟨cb,6,none⟩ = some (.slice ga gl gc):=by rw [cell_of_row w3 cb 6 _ _ (0,0) bx3]; rfl
  have e6 : w3.frozen? ⟨cb,6,none⟩ = false:=frozen_of_row w3 cb 6 _ _ bx3
  obtain ⟨va,vl,vc,rfl⟩ : ∃ a l c,v' = .slice a l c:=by obtain ⟨a,c,e⟩:=ho.long; exact ⟨_,_,_,e⟩
  obtain ⟨W4,hW4⟩:=exN (w3.setCell ⟨cb,6,none⟩ (.slice va vl vc))
  have HFIN : Hid (GzTo H w W4 t cc d M N a b { c with gn:=c.gn ++ [x] }):=by
   have G2:=HG2.out
   have t4 : Tch (fun k => k = cb) w3 W4:=by rw [<- hW4]; exact tch_at _ _ _ _
   have T24 : Tch (fun k => k = cb ∨ (Value.slice ga gl gc).ownBlock = some k) W2 W4:=(HT3.out.mono (fun k _ e => .inr e)).trans t4 (fun k _ e => .inl e)
   have T02 : Tch (fun k => k = cb ∨ (Value.slice ga gl gc).ownBlock = some k) w W2:=(Tch.of_below HB.out).trans (Tch.of_below HB2.out) (fun _ _ e => e)
   have hs2 : w.heap.size <= W2.heap.size:=T02.size
   have hcbH : H cb:=by rw [<- hcb.out]; exact G2.hx _ (.inr (.inl rfl))
   have hcblt : cb < w.heap.size:=HG.out.hl cb hcbH
   have hgH : ∀ k,(Value.slice ga gl gc).ownBlock = some k -> H k:=fun k e => G2.hx k (.inr (.inr (.inr e)))
   have hgU : ∀ k,(Value.slice ga gl gc).ownBlock = some k -> ¬ U k:=fun k e => G2.un k (.inr (.inr e))
   have hcU : ¬ U cb:=by rw [<- hcb.out]; exact G2.un _ (.inl rfl)
   have hvt : ∀ k,vt.ownBlock = some k -> ¬ (k = cb ∨ (Value.slice ga gl gc).ownBlock = some k):=fun k e q => by
    rcases q with q | q
    ·exact G2.cg.net (by rw [e,q,hcb.out])
    ·exact G2.cg.ap k e q
   have hv4 : ∀ k,(Value.slice va vl vc).ownBlock = some k -> (Value.slice ga gl gc).ownBlock = some k ∨ W2.heap.size <= k:=fun k e => HFs.out k e
   have hv4b : ∀ k,(Value.slice va vl vc).ownBlock = some k -> k ≠ cb:=fun k e q => by
    rcases hv4 k e with q2 | q2
    ·exact hnb (by rw [q2,q])
    ·omega
   have bx4 : W4.heap[cb]? = some (.cells #[tp t,.string b.key,b.fv,.bool b.jn,.int .i64 (c.lv : Int),vt,.slice va vl vc] 114 (0,0)):=by rw [<- hW4]; exact heap_setCell_same w3 cb 6 _ _ _ bx3
   refine ⟨fun k => H k ∨ W2.heap.size <= k /\ k < W4.heap.size,⟨U,vt,.slice va vl vc,⟨G2.tz.tch T24 (fun k hk q => q.elim (fun e => hcU (by rw [<- e]; exact hk)) (fun e => hgU k e hk)),⟨by rw [hcb.out]; exact bx4,G2.cg.tk.tch T24 hvt,?_,fun k e q => ?_,fun y hy => ?_⟩,fun k hk q => ?_,fun k hk => ?_,fun k hk => ?_⟩⟩,((T02.trans T24 (fun _ _ e => e))).mono (fun k _ e => e.elim (fun q => by rw [q]; exact hcbH) (hgH k)),fun k hk => hk.imp id (fun e => zn2 hs2 e.1)⟩
   ·have : nums c.gn ++ [.int .i64 x] = nums (c.gn ++ [x]):=by simp [nums]
    rw [this] at HO
    exact HO.out.tch t4 (fun k e q => hv4b k e q)
   ·rcases hv4 k q with q2 | q2
    ·exact G2.cg.ap k e q2
    ·have:=(G2.cg.tk.owns.lt k e); omega
   ·rcases hy with hy | hy
    ·exact G2.cg.wf y (.inl hy)
    ·rcases List.mem_append.1 hy with q | q
     ·exact G2.cg.wf y (.inr q)
     ·rw [List.mem_singleton.1 q]; exact HFR.out
   ·rcases hk with e | e | e
    ·exact hcU (by rw [hcb.out] at e; rw [<- e]; exact q)
    ·exact G2.un k (.inr (.inl e)) q
    ·rcases hv4 k e with q2 | q2
     ·exact hgU k q2 q
     ·have:=HG.out.tz.ul k q; omega
   ·rcases hk with e | e | e | e
    ·exact .inl (G2.hx k (.inl e))
    ·exact .inl (G2.hx k (.inr (.inl e)))
    ·exact .inl (G2.hx k (.inr (.inr (.inl e))))
    ·rcases hv4 k e with q2 | q2
     ·exact .inl (hgH k q2)
     ·refine .inr ⟨q2,?_⟩
      have:=HO.out.owns.lt k e
      have:=t4.size
      omega
   ·rcases hk with e | e
    ·exact zn1 (HG.out.hl k e) (zn2 hs2 T24.size)
    ·exact e.2
  clear ho hg hf hnb bx3 c6 hW2
  go_wp2_with fail
  try rw [hW4]
  go_end0
  exact ⟨rfl,HFIN.out⟩
end
section
variable {H U : Nat -> Prop} {w w' : World} {t cc d M N : Nat} {a a' : AS} {b : CB} {c c' : CH} {vt vg : Value}
theorem GzAt.took (G : GzAt H w t cc d M N a b c U vt vg) {x : Int} (hx : 50 <= x /\ x < (N : Int)) {w3 : World} {v' : Value} (ho : OwV 0 3 w3 v' (nums c.tk ++ [.int .i64 x])) (ht : Tch (fun k => vt.ownBlock = some k) w w3) (hf : Fsh w vt v') :
  ∃ H',GzAt H' (w3.setCell ⟨b.cb,5,none⟩ v') t cc d M N a b { c with tk:=c.tk ++ [x] } U v' vg /\ Tch H w (w3.setCell ⟨b.cb,5,none⟩ v') /\ ∀ k,H' k -> H k ∨ w.heap.size <= k:=by
 have t4 : Tch (fun k => k = b.cb) w3 (w3.setCell ⟨b.cb,5,none⟩ v'):=tch_at _ _ _ _
 have T : Tch (fun k => k = b.cb ∨ vt.ownBlock = some k) w (w3.setCell ⟨b.cb,5,none⟩ v'):=(ht.mono (fun k _ e => .inr e)).trans t4 (fun k _ e => .inl e)
 have hcbH : H b.cb:=G.hx _ (.inr (.inl rfl))
 have hcblt : b.cb < w.heap.size:=G.hl _ hcbH
 have hcU : ¬ U b.cb:=G.un _ (.inl rfl)
 have hgU : ∀ k,vt.ownBlock = some k -> ¬ U k:=fun k e => G.un k (.inr (.inl e))
 have hv4b : ∀ k,v'.ownBlock = some k -> k ≠ b.cb:=fun k e q => by
  rcases hf k e with q2 | q2
  ·exact G.cg.net (by rw [q2,q])
  ·omega
 have bx3 : w3.heap[b.cb]? = some (.cells #[tp t,.string b.key,b.fv,.bool b.jn,.int .i64 (c.lv : Int),vt,vg] 114 (0,0)):=by
  rw [ht.block b.cb G.cg.lt G.cg.net]; exact G.cg.box
 have bx4 : (w3.setCell ⟨b.cb,5,none⟩ v').heap[b.cb]? = some (.cells #[tp t,.string b.key,b.fv,.bool b.jn,.int .i64 (c.lv : Int),v',vg] 114 (0,0)):=heap_setCell_same w3 b.cb 5 _ _ _ bx3
 refine ⟨fun k => H k ∨ (w.heap.size <= k /\ k < (w3.setCell ⟨b.cb,5,none⟩ v').heap.size),⟨G.tz.tch T (fun k hk q => q.elim (fun e => hcU (by rw [<- e]; exact hk)) (fun e => hgU k e hk)),⟨bx4,?_,G.cg.gn.tch T (fun k e q => ?_),fun k e q => ?_,fun y hy => ?_⟩,fun k hk q => ?_,fun k hk => ?_,fun k hk => ?_⟩,T.mono (fun k _ e => e.elim (fun q => by rw [q]; exact hcbH) (fun e => G.hx k (.inr (.inr (.inl e))))),fun k hk => hk.imp id (fun e => e.1)⟩
 ·have e0 : nums c.tk ++ [.int .i64 x] = nums (c.tk ++ [x]):=by simp [nums]
  rw [e0] at ho
  exact ho.tch t4 (fun k e q => hv4b k e q)
 ·rcases q with q | q
  ·exact G.cg.neg (by rw [e,q])
  ·exact G.cg.ap k q e
 ·rcases hf k e with q2 | q2
  ·exact G.cg.ap k q2 q
  ·have:=(G.cg.gn.owns.lt k q); omega
 ·rcases hy with hy | hy
  ·rcases List.mem_append.1 hy with q | q
   ·exact G.cg.wf y (.inl q)
   ·rw [List.mem_singleton.1 q]; exact hx
  ·exact G.cg.wf y (.inr hy)
 ·rcases hk with e | e | e
  ·exact hcU (by rw [<- e]; exact q)
  ·rcases hf k e with q2 | q2
   ·exact hgU k q2 q
   ·have:=G.tz.ul k q; omega
  ·exact G.un k (.inr (.inr e)) q
 ·rcases hk with e | e | e | e
  ·exact .inl (G.hx k (.inl e))
  ·exact .inl (G.hx k (.inr (.inl e)))
  ·rcases hf k e with q2 | q2
   ·exact .inl (G.hx k (.inr (.inr (.inl q2))))
   ·refine .inr ⟨q2,?_⟩
    have:=ho.owns.lt k e
    have:=t4.size
    omega
  ·exact .inl (G.hx k (.inr (.inr (.inr e))))
 ·rcases hk with e | e
  ·exact zn1 (G.hl k e) T.size
  ·exact e.2
theorem takeNo {s : Ah.St} (h : (Ah.take s).2.1 = false) : (Ah.take s).2.2 = s /\ (Ah.take s).1 = 0:=by
 unfold Ah.take at *
 split
 ·exact ⟨rfl,rfl⟩
 ·rename_i hc
  rw [if_neg hc] at h
  cases h
theorem may_rl {n : Nd} (hm : mayN n = true) (hs : Sm n) : Rl n:=zep9 (zw9.1 hm) (by have:=hs.kl; omega)
theorem enc_ne (n : Nd) (k : Nat) : encN n k ≠ []:=by cases k <;> simp [encN,itm]
theorem zdl9 (n : Nd) (u1 u2 u3 : Value) (w : World) (G : Gz H w t cc d M N a b c) (hn : Nn w n u1 u2 u3) (hs : Sm n) (hl : c.tk.length <= 100000) :
  Calls Tryz.prog 114 #[chp b,nod n.lf u1 u2 u3] w fun e w' => e = .returned (.tuple #[.int .i64 (writeF a c n).x,.int .i64 (writeF a c n).e]) /\ GzTo H w w' t cc d M N (writeF a c n).a b (writeF a c n).c:=by
 obtain ⟨U,vt,vg,h⟩:=G
 have HG:=hideN h
 have HS:=hideN hs
 obtain ⟨a1,c1,a2,c2,a3,c3,rfl,rfl,rfl,_,_,_,_⟩:=hn.out
 have HP0:=fun W hb (hm : mayN n = true) => put_ok n _ _ _ W (hn.below hb) hs hm
 have HQ0:=fun W hb (hm : mayN n = false) => ztk9 n _ _ _ W (hn.below hb) hs hm
 obtain ⟨L1,hL1⟩:=exH n.ks.length
 obtain ⟨L2,hL2⟩:=exH n.vs.length
 obtain ⟨L3,hL3⟩:=exH n.kd.length
 obtain ⟨lf,hlf⟩:=exH n.lf
 rw [hL1.out,hL2.out,hL3.out,hlf.out]
 have HP : Hid (∀ W,Below w.heap.size w W -> mayN n = true -> Calls Tryz.prog 144 #[.agg #[.bool lf,.slice a1 L1 c1,.slice a2 L2 c2,.slice a3 L3 c3]] W fun e w' => (∃ v,e = .returned (.tuple #[blN (kdN n.lf) v,.int .i64 0]) /\ Rd .u8 w' v (encN n n.ks.length) /\ ∀ j,v.ownBlock = some j -> W.heap.size <= j) /\ Below W.heap.size W w'):=fun W hb hm => by
  have:=HP0 W hb hm
  rw [hL1.out,hL2.out,hL3.out] at this
  rw [hL1.out,<- hlf.out]
  exact this
 have HQ : Hid (∀ W,Below w.heap.size w W -> mayN n = false -> Calls Tryz.prog 144 #[.agg #[.bool lf,.slice a1 L1 c1,.slice a2 L2 c2,.slice a3 L3 c3]] W fun e w' => e = .returned (.tuple #[blN 0 (.slice none 0 0),.int .i64 1]) /\ Below W.heap.size W w'):=fun W hb hm => by
  have:=HQ0 W hb hm
  rw [hL1.out,hL2.out,hL3.out] at this
  rw [<- hlf.out]
  exact this
 unfold nod
 obtain ⟨W1,hW1⟩:=exN (w.alloc (.cells #[.bool lf,.slice a1 L1 c1,.slice a2 L2 c2,.slice a3 L3 c3] 93))
 have B1 : Hid (Below w.heap.size w W1):=by rw [<- hW1]; exact za9 _ _
 have V1 : Nb W1 93 w.heap.size lf (.slice a1 L1 c1) (.slice a2 L2 c2) (.slice a3 L3 c3):=by rw [<- hW1]; exact nb_new _ _ _ _ _ _
 have p0:=V1.c0
 have p1:=V1.c1
 have p2:=V1.c2
 have p3:=V1.c3
 obtain ⟨cb,hcb⟩:=exH b.cb
 have HL:=hideN hl
 unfold chp
 rw [hcb.out]
 clear V1 h hs hn HP0 HQ0 hl
 cases hm : mayN n with
 | false =>
  have HW : Hid (writeF a c n = ⟨0,7,a,c⟩):=by show _ = _; unfold writeF; rw [hm,if_neg (by decide)]
  rw [HW.out]
  have HC:=hideN (HQ.out W1 B1.out hm)
  clear hm HP HQ
  go_enter Tryz.func114,Tryz.ntmps114
  go_wp2_with fail
  refine HC.out.mono ?_
  rintro e w2 ⟨rfl,b2⟩
  have HB : Hid (Below w.heap.size w (w2.alloc (.cells #[.int .i64 0,.slice none 0 0] 63))):=(B1.out.trans (b2.mono B1.out.size)).trans ((za9 _ _).mono (B1.out.trans (b2.mono B1.out.size)).size)
  clear b2 HC p0 p1 p2 p3 hW1
  unfold blN
  go_wp2_with fail
  go_ret2
  exact ⟨rfl,Gz.to_below ⟨U,vt,vg,HG.out⟩ HB.out⟩
 | true =>
  have HR : Hid (Rl n):=may_rl hm HS.out
  have HMAY:=hideN hm
  have HC:=hideN (HP.out W1 B1.out hm)
  obtain ⟨x,hx⟩:=exH ((Ah.take a.A).1)
  obtain ⟨ok,hok⟩:=exH ((Ah.take a.A).2.1)
  obtain ⟨K,hK⟩:=exH (kdN n.lf)
  rw [hK.out] at HC
  obtain ⟨R,hRR⟩:=exH (writeF a c n)
  rw [hRR.out]
  clear hm HP HQ
  go_enter Tryz.func114,Tryz.ntmps114
  go_wp2_with fail
  refine HC.out.mono ?_
  rintro e w2 ⟨⟨v,rfl,hr,hvn⟩,b2⟩
  obtain ⟨va,vl,vc,rfl⟩ : ∃ a l c,v = .slice a l c:=by obtain ⟨a,c,e,_⟩:=hr; exact ⟨_,_,_,e⟩
  obtain ⟨W3,hW3⟩:=exN (w2.alloc (.cells #[.int .i64 K,.slice va vl vc] 63))
  have b3 : Below w2.heap.size w2 W3:=by rw [<- hW3]; exact za9 _ _
  have bw2 : Below w.heap.size w w2:=B1.out.trans (b2.mono B1.out.size)
  have B3 : Hid (Below w.heap.size w W3):=bw2.trans (b3.mono bw2.size)
  have K3 : Hid (Kb W3 w2.heap.size K (.slice va vl vc)):=by rw [<- hW3]; exact kb_new _ _ _
  have R3 : Hid (Rd .u8 W3 (.slice va vl vc) (encN n n.ks.length)):=hr.below b3
  have N2 : Hid (w.heap.size <= w2.heap.size):=bw2.size
  have VN : Hid (∀ j,(Value.slice va vl vc).ownBlock = some j -> w.heap.size <= j /\ (encN n n.ks.length ≠ [] -> j < w2.heap.size)):=fun j hj => ⟨zn2 B1.out.size (hvn j hj),fun h0 => hr.blk_lt h0 hj⟩
  have G3:=hideN (HG.out.tch (S:=fun _ => False) (Tch.of_below B3.out) (fun _ _ e => e))
  have q0 : W3.cell? ⟨cb,0,none⟩ = some (tp t):=by rw [<- hcb.out,G3.out.cg.cell]; rfl
  have q1:=G3.out.tz.c1
  have HT:=hideN (tzTake W3 G3.out.tz)
  rw [hx.out,hok.out] at HT
  clear hr hvn b2 b3 bw2 HC p0 p1 p2 p3 hW1
  unfold blN
  go_wp2_with fail
  refine HT.out.mono ?_
  rintro e w4 ⟨rfl,hT4⟩
  cases ok with
  | false =>
   have e1:=takeNo hok.out
   have HW : Hid (R = ⟨0,10,a,c⟩):=by show _ = _; rw [<- hRR.out]; unfold writeF; rw [HMAY.out,if_pos rfl,hok.out,if_neg (by decide)]
   have HF : Hid (GzTo H w w4 t cc d M N a b c):=by
    rw [show ({ a with A:=(Ah.take a.A).2.2 } : AS) = a by rw [e1.1]] at hT4
    exact GzTo.after (Tch.of_below B3.out) (fun k e => .inl e) (G3.out.toTz hT4)
   clear hT4 HT e1 q0 q1 hW3
   have HRR : Hid (GzTo H w w4 t cc d M N R.a b R.c /\ R.x = 0 /\ R.e = 10):=by rw [HW.out]; exact ⟨HF.out,rfl,rfl⟩
   go_wp2_with fail
   go_ret2
   exact ⟨by rw [HRR.out.2.1,HRR.out.2.2]; rfl,HRR.out.1⟩
  | true =>
   have HXN : Hid (50 <= x /\ x < (N : Int)):=by
    have:=takeIn hok.out
    rw [hx.out] at this
    have:=G3.out.tz.lo
    show _ /\ _
    omega
   obtain ⟨U4,G4,T4,hU4⟩:=G3.out.tzTo hT4
   have HG4:=hideN G4
   have HT4 : Hid (Tch U W3 w4):=T4
   have HU4:=hideN hU4
   obtain ⟨ta,tc,hvt⟩:=G4.cg.tk.long
   rw [zn9] at hvt
   obtain ⟨tl,htl⟩:=exH c.tk.length
   rw [htl.out] at hvt
   subst hvt
   have c5 : w4.cell? ⟨cb,5,none⟩ = some (.slice ta tl tc):=by rw [<- hcb.out,G4.cg.cell]; rfl
   obtain ⟨W5,hW5⟩:=exN (w4.alloc (.cells #[.int .i64 x] 3))
   have b5 : Below w4.heap.size w4 W5:=by rw [<- hW5]; exact za9 _ _
   have HG5:=hideN (G4.tch (S:=fun _ => False) (Tch.of_below b5) (fun _ _ e => e))
   have k5 : Hid (W5.cell? ⟨w4.heap.size,0,none⟩ = some (.int .i64 x)):=by show _ = _; rw [<- hW5,cell_of_row _ w4.heap.size 0 _ _ (0,0) (heap_alloc_new w4 _)]; rfl
   have HB5:=hideN b5
   clear hT4 HT G4 T4 hU4 q0 q1 b5 hW3
   go_wp2_with (at_builtin; refine zaa9 56 3 (.int .i64 0) 8 elemIN _ rfl (.tmp 35) (.tmp 37) rfl 0 _ (nums c.tk) rfl HG5.out.cg.tk w4.heap.size (.int .i64 x) rfl rfl k5.out (by rw [zn9]; have:=HL.out; omega) (by rw [zn9]; have:=HL.out; omega) (zn7 _) ?_; intro v' w6 ho hg hf; refine Hid.out ?_)
   refine hideN ?_
   obtain ⟨H6,G6,T6,hH6⟩:=HG5.out.took HXN.out ho hg.tch hf
   have hnb : (Value.slice ta tl tc).ownBlock ≠ some cb:=by rw [<- hcb.out]; exact HG5.out.cg.net
   have bx6 : w6.heap[cb]? = some (.cells #[tp t,.string b.key,b.fv,.bool b.jn,.int .i64 (c.lv : Int),.slice ta tl tc,vg] 114 (0,0)):=by
    rw [hg.tch.block cb (by rw [<- hcb.out]; exact HG5.out.cg.lt) hnb,<- hcb.out]; exact HG5.out.cg.box
   have d5 : w6.cell? ⟨cb,5,none⟩ = some (.slice ta tl tc):=by rw [cell_of_row w6 cb 5 _ _ (0,0) bx6]; rfl
   have e5 : w6.frozen? ⟨cb,5,none⟩ = false:=frozen_of_row w6 cb 5 _ _ bx6
   obtain ⟨xa,xl,xc,rfl⟩ : ∃ a l c,v' = .slice a l c:=by obtain ⟨a,c,e⟩:=ho.long; exact ⟨_,_,_,e⟩
   rw [hcb.out] at G6 T6
   obtain ⟨W7,hW7⟩:=exN (w6.setCell ⟨cb,5,none⟩ (.slice xa xl xc))
   rw [hW7] at G6 T6
   obtain ⟨fb,X,S,Y,s,D,h7⟩:=G6.tz
   have f0 : W7.cell? ⟨cb,0,none⟩ = some (tp t):=by rw [<- hcb.out,G6.cg.cell]; rfl
   have f2:=h7.c2
   have HM7:=hideN h7.fm
   have HG6:=hideN G6
   have H7:=hideN h7
   have HT6 : Hid (Tch (fun k => H k ∨ U4 k) W5 W7):=T6
   have HH6:=hideN hH6
   have HN2:=hideN h7.cz.ch.n2
   clear ho hg hf hnb bx6 c5 G6 T6 hH6 h7 hW5
   go_wp2_with (at_mapUpdate; refine zec9 rfl (.tmp 47) (.tmp 48) (.tmp 49) rfl fb N a.F x rfl rfl rfl HM7.out (by have:=HXN.out; omega) HXN.out.2 (by have:=HN2.out; omega) ?_; intro w8 m8 t8; refine Hid.out ?_)
   refine hideN ?_
   obtain ⟨q8,q9⟩:=H7.out.fmTo m8 t8 (fun y hy => by
    unfold updI at hy
    split at hy
    ·rename_i e; rw [e]; exact HXN.out
    ·exact H7.out.ok.fr y hy)
   obtain ⟨U8,G8,T8,hU8⟩:=HG6.out.tzTo ⟨U4,q8,q9,fun _ e => .inl e⟩
   -- from w on to w8
   have hw2 : w2.heap.size < W3.heap.size:=K3.out.lt
   have hw3 : W3.heap.size <= w4.heap.size:=HT4.out.size
   have hw5 : w4.heap.size <= W5.heap.size:=HB5.out.size
   have hw7 : W5.heap.size <= W7.heap.size:=HT6.out.size
   have hw8 : W7.heap.size <= w8.heap.size:=t8.size
   have OLD : ∀ j,w.heap.size <= j -> j < W3.heap.size -> ¬ U j /\ ¬ (H j ∨ U4 j) /\ ¬ U8 j:=fun j h1 h2 => by
    have nU : ¬ U j:=fun e => by have:=HG.out.hl j (HG.out.hx j (.inl e)); omega
    have nU4 : ¬ U4 j:=fun e => (HU4.out j e).elim nU (fun e => by omega)
    have nH : ¬ H j:=fun e => by have:=HG.out.hl j e; omega
    exact ⟨nU,fun e => e.elim nH nU4,fun e => (hU8 j e).elim nU4 (fun e => by omega)⟩
   have SAME : ∀ j,w.heap.size <= j -> j < W3.heap.size -> w8.heap[j]? = W3.heap[j]?:=fun j h1 h2 => by
    obtain ⟨n1,n2,n3⟩:=OLD j h1 h2
    have e4 : w4.heap[j]? = W3.heap[j]?:=HT4.out.block j h2 n1
    have e5 : W5.heap[j]? = w4.heap[j]?:=(Tch.of_below (S:=fun _ => False) HB5.out).block j (by omega) (fun e => e)
    have e7 : W7.heap[j]? = W5.heap[j]?:=HT6.out.block j (by omega) n2
    have e8 : w8.heap[j]? = W7.heap[j]?:=T8.block j (by omega) (fun e => n2 (.inr e))
    rw [e8,e7,e5,e4]
   have HSAME:=hideN SAME
   have K8 : Kb w8 w2.heap.size K (.slice va vl vc):=by unfold Kb; rw [SAME _ N2.out hw2]; exact K3.out
   have R8 : Rd .u8 w8 (.slice va vl vc) (encN n n.ks.length):=by
    obtain ⟨a0,cp0,e0,g1,g2,g3,g4⟩:=R3.out
    refine ⟨a0,cp0,e0,g1,g2,g3,g4.imp id (fun ⟨b0,o0,e1,g5⟩ => ⟨b0,o0,e1,fun i hi => ?_⟩)⟩
    have hb0:=VN.out b0 (by rw [e0,e1]; rfl)
    have hne : encN n n.ks.length ≠ []:=fun e => by rw [e] at hi; simp at hi
    have hlt:=hb0.2 hne
    rw [<- g5 i hi]
    unfold World.cell?
    rw [SAME b0 hb0.1 (by omega)]
   have ak : (⟨a.V,a.Q,(Ah.take a.A).2.2,updI a.F x true⟩ : AS) = { { a with A:=(Ah.take a.A).2.2 } with F:=updI a.F x true }:=rfl
   have VU8 : ∀ j,(Value.slice va vl vc).ownBlock = some j -> ¬ U8 j:=fun j hj => by
    have:=VN.out j hj
    exact (OLD j this.1 (by have:=this.2 (enc_ne n _); omega)).2.2
   have D8 : Tch (fun _ => False) w8 w8.drew:=⟨rfl,rfl,rfl,zn6 _,fun _ _ _ => rfl⟩
   have G8d:=G8.tch D8 (fun _ _ e => e)
   have R8d : Rd .u8 w8.drew (.slice va vl vc) (encN n n.ks.length):=R8
   have HP8:=hideN (tzPut x n (.slice va vl vc) w8.drew G8d.tz HXN.out HMAY.out HR.out R8d VU8)
   have HUK : Hid (¬ U8 w2.heap.size):=(OLD _ N2.out hw2).2.2
   have TT : Tch H w w8:=by
    have x1 : Tch H w W3:=Tch.of_below B3.out
    have x2 : Tch H w w4:=x1.trans HT4.out (fun k _ e => HG.out.hx k (.inl e))
    have x3 : Tch H w W5:=x2.trans (Tch.of_below (S:=H) HB5.out) (fun _ _ e => e)
    have hbs:=B3.out.size
    have u4 : ∀ k,k < w.heap.size -> U4 k -> H k:=fun k hk e => (HU4.out k e).elim (fun e => HG.out.hx k (.inl e)) (fun e => by omega)
    have x4 : Tch H w W7:=x3.trans HT6.out (fun k hk e => e.elim id (u4 k hk))
    exact x4.trans T8 (fun k hk e => u4 k hk e)
   have HH : ∀ k,(H6 k ∨ U8 k) -> H k ∨ w.heap.size <= k:=fun k e => by
    have hbs:=B3.out.size
    have u4 : U4 k -> H k ∨ w.heap.size <= k:=fun e => (HU4.out k e).elim (fun e => .inl (HG.out.hx k (.inl e))) (fun e => .inr (by omega))
    rcases e with e | e
    ·rcases HH6.out k e with e | e
     ·exact e.elim .inl u4
     ·exact .inr (by omega)
    ·rcases hU8 k e with e | e
     ·exact u4 e
     ·exact .inr (by omega)
   have HTT:=hideN TT
   have HHH:=hideN HH
   have HG8:=hideN G8d
   have HK8:=hideN K8
   have HST : Hid (∀ W,TzTo U8 w8.drew W t cc d M N (a.wr n) -> (W.cell? ⟨cb,0,none⟩ = some (tp t) /\ W.cell? ⟨t,0,none⟩ = some (cp cc) /\ W.cell? ⟨w2.heap.size,0,none⟩ = some (.int .i64 K) /\ W.cell? ⟨w2.heap.size,1,none⟩ = some (.slice va vl vc)) /\ GzTo H w W t cc d M N (a.wr n) b { c with tk:=c.tk ++ [x] }):=fun W hW => by
    have g9:=HG8.out.toTz hW
    obtain ⟨U9,z9,t9,_⟩:=hW
    have k9 : Kb W w2.heap.size K (.slice va vl vc):=(show Kb w8.drew w2.heap.size K (.slice va vl vc) from HK8.out).tch t9 HUK.out
    have gg : GzTo H w W t cc d M N (a.wr n) b { c with tk:=c.tk ++ [x] }:=GzTo.after (HTT.out.trans (⟨rfl,rfl,rfl,zn6 _,fun _ _ _ => rfl⟩ : Tch H w8 w8.drew) (fun _ _ e => e)) HHH.out g9
    obtain ⟨H9,G9,_⟩:=g9
    exact ⟨⟨by rw [<- hcb.out]; exact G9.c0,z9.c0,k9.c0,k9.c1⟩,gg⟩
   have HAW : Hid ((⟨updI a.V x (0,n),a.Q,(Ah.take a.A).2.2,updI a.F x true⟩ : AS) = a.wr n):=by show _ = _; unfold AS.wr; rw [hx.out]
   have HP9 : Hid (Calls Tryz.prog 27 #[cp cc,.int .i64 x,.agg #[.int .i64 K,.slice va vl vc]] w8.drew fun e w' => e = .returned (.int .i64 0) /\ TzTo U8 w8.drew w' t cc d M N (a.wr n)):=by
    have:=HP8.out
    rw [hK.out] at this
    refine Calls.mono this ?_
    rintro e w' ⟨rfl,h9⟩
    refine ⟨rfl,?_⟩
    rw [<- HAW.out]
    exact h9
   have HWR : Hid (R = ⟨x,0,a.wr n,{ c with tk:=c.tk ++ [x] }⟩):=by show _ = _; rw [<- hRR.out]; unfold writeF; rw [HMAY.out,if_pos rfl,hok.out,if_pos rfl,hx.out]
   have hS : w8.drew.cell? ⟨cb,0,none⟩ = some (tp t) /\ w8.drew.cell? ⟨t,0,none⟩ = some (cp cc) /\ w8.drew.cell? ⟨w2.heap.size,0,none⟩ = some (.int .i64 K) /\ w8.drew.cell? ⟨w2.heap.size,1,none⟩ = some (.slice va vl vc):=by
    have k8 : Kb w8.drew w2.heap.size K (.slice va vl vc):=K8
    exact ⟨by rw [<- hcb.out,G8d.cg.cell]; rfl,G8d.tz.c0,k8.c0,k8.c1⟩
   clear m8 t8 q8 q9 G8 T8 hU8 hw2 hw3 hw5 hw7 hw8 OLD SAME K8 R8 ak VU8 D8 G8d R8d TT HH f0 f2 d5 e5 hW7 HP8
   go_wp2_with fail
   go_region_held3 (fun w' => w'.cell? ⟨cb,0,none⟩ = some (tp t) /\ w'.cell? ⟨t,0,none⟩ = some (cp cc) /\ w'.cell? ⟨w2.heap.size,0,none⟩ = some (.int .i64 K) /\ w'.cell? ⟨w2.heap.size,1,none⟩ = some (.slice va vl vc)) (first | go_keep | exact hS9)
    (first
     | (go_at_call 27; refine HP9.out.mono ?_; rintro e W9 ⟨rfl,h9⟩; obtain ⟨hS9,g9⟩:=HST.out W9 h9; have HG9:=hideN g9; clear h9 g9))
   go_wp2_with fail
   have HRR : Hid (GzTo H w W9 t cc d M N R.a b R.c /\ R.x = x /\ R.e = 0):=by rw [HWR.out]; exact ⟨HG9.out,rfl,rfl⟩
   go_ret2
   exact ⟨by rw [HRR.out.2.1,HRR.out.2.2]; rfl,HRR.out.1⟩
end
end Go.Proofs.YtjhccpijpffahaaGreat
