import Derived.Test.YtjhccpijpffahaaGreatPNReg
import Derived.Test.YtjhccpijpffahaaGreatPBReg
import Derived.Test.YtjhccpijpffahaaGreatPNPl
set_option maxRecDepth 100000
set_option linter.unusedVariables false
set_option linter.unusedSimpArgs false
set_option maxHeartbeats 8000000
namespace Go.Proofs.YtjhccpijpffahaaGreat
open Go.RowKit Pl
theorem zst9 : (Tryz.prog.info? 235).map (·.size) = some 2:=by kernel_rfl
def rdN (lf : Bool) (xs : List Int) : Pz:=pzN lf (numZ (xs,false)).2 (numZ (xs,false)).1.toNat
def rdOk (p : Pz) : Bool:=!p.t.2 && decide (p.t.1.length = 0)
theorem Rs.num {B n0 : Nat} {w w1 : World} {g nb : Nat} {v1 v2 v3 : Value} {p : Pz} {t' : List Int × Bool} (h : Rs B n0 w g nb v1 v2 v3 p) (ht : Tch (fun k => k = g) w w1) (hx : SzX n0 w1 g t') : Rs B n0 w1 g nb v1 v2 v3 ⟨p.n,t'⟩ /\ Below n0 w w1:=
 ⟨⟨hx,h.nv.tch ht (fun e => h.gn e.symm),h.k.tch ht (fun x hx e => by have:=h.k.ge x hx; have:=h.gB; omega),h.v.tch ht (fun x hx e => by have:=h.v.ge x hx; have:=h.gB; omega),h.d.tch ht (fun x hx e => by have:=h.d.ge x hx; have:=h.gB; omega),h.ap,h.gn,h.gB,h.nB,h.n0,zn2 h.wB ht.size⟩,
  ht.below (by have:=h.n0; have:=h.nB; have:=h.wB; omega) (fun k e => by rw [e]; exact h.src.new)⟩
theorem zhq9 (lf : Bool) (v : Value) (xs : List Int) (w : World) (hr : Rd .u8 w v xs) (hb : By xs) :
  Calls Tryz.prog 154 #[.bool lf,v] w fun e w' => (∃ v1 v2 v3,e = .returned (.tuple #[nod lf v1 v2 v3,.bool (rdOk (rdN lf xs))]) /\ Ow3 w.heap.size w' (rdN lf xs).n v1 v2 v3) /\ Below w.heap.size w w':=by
 obtain ⟨a,cap,rfl,h1,h2,_⟩:=id hr
 have HR:=hideN hr
 have HY:=hideN hb
 obtain ⟨L,hL⟩:=exH xs.length
 rw [hL.out] at HR h1 ⊢
 obtain ⟨W1,hW1⟩:=exN (w.alloc (.cells #[.bool false,.slice none 0 0,.slice none 0 0,.slice none 0 0] 93))
 have b1 : Below w.heap.size w W1:=by rw [<- hW1]; exact za9 _ _
 have X1 : Hid (Nb W1 93 w.heap.size false (.slice none 0 0) (.slice none 0 0) (.slice none 0 0)):=by rw [<- hW1]; exact nb_new _ _ _ _ _ _
 have B1:=hideN b1
 have RS1 : Hid (RdS W1.heap.size W1 (.slice a L cap) xs):=rdS_of (HR.out.below b1)
 obtain ⟨p9,hp9⟩:=exH (rdN lf xs)
 obtain ⟨ok,hok⟩:=exH (rdOk p9)
 rw [hp9.out,hok.out]
 obtain ⟨t1,ht1⟩:=exH ((numZ (xs,false)).2)
 have HP9 : Hid (p9 = pzN lf t1 (numZ (xs,false)).1.toNat):=by rw [<- hp9.out,<- ht1.out]; rfl
 clear hr hb h2 b1
 unfold nod
 go_enter Tryz.func154,Tryz.ntmps154
 go_wp2_with (first | (refine zc9 _ rfl 235 (.tmp 6) (.tmp 10) rfl _ #[.slice a L cap,.bool false] ?h1 ?h2 zst9 rfl rfl ?_; (case h1 => rfl); (case h2 => rfl); skip) | (refine zc9 _ rfl 93 (.tmp 7) (.tmp 12) rfl _ #[.bool lf,.slice none 0 0,.slice none 0 0,.slice none 0 0] ?h1 ?h2 zon9 rfl rfl ?_; (case h1 => rfl); (case h2 => rfl); skip))
 obtain ⟨W2,hW2⟩:=exN (W1.alloc (.cells #[.slice a L cap,.bool false] 235))
 rw [hW2]
 obtain ⟨W3,hW3⟩:=exN (W2.alloc (.cells #[.bool lf,.slice none 0 0,.slice none 0 0,.slice none 0 0] 93))
 rw [hW3]
 have b2 : Below W1.heap.size W1 W2:=by rw [<- hW2]; exact za9 _ _
 have b3 : Below W2.heap.size W2 W3:=by rw [<- hW3]; exact za9 _ _
 have z2 : W2.heap.size = W1.heap.size + 1:=by rw [<- hW2]; simp
 have z3 : W3.heap.size = W2.heap.size + 1:=by rw [<- hW3]; simp
 have s2 : W2.heap[W1.heap.size]? = some (.cells #[.slice a L cap,.bool false] 235 (0,0)):=by rw [<- hW2]; exact heap_alloc_new W1 _
 have s3 : W3.heap[W1.heap.size]? = some (.cells #[.slice a L cap,.bool false] 235 (0,0)):=by rw [b3.block _ (Array.getElem?_eq_some_iff.1 s2).1]; exact s2
 have B3 : Hid (Below W1.heap.size W1 W3):=b2.trans (b3.mono b2.size)
 have SX3 : Hid (SzX W1.heap.size W3 W1.heap.size (xs,false)):=⟨_,s3,RS1.out.below B3.out,HY.out,zn6 _⟩
 have NV3 : Hid (Nb W3 93 W2.heap.size lf (.slice none 0 0) (.slice none 0 0) (.slice none 0 0)):=by rw [<- hW3]; exact nb_new _ _ _ _ _ _
 have HZZ : Hid (W2.heap.size = W1.heap.size + 1 /\ W3.heap.size = W1.heap.size + 2):=⟨z2,by omega⟩
 clear b2 b3 s2 s3 z2 z3 hW1 hW2 hW3
 obtain ⟨n0,hn0⟩:=exN W1.heap.size
 obtain ⟨nb,hnb⟩:=exN W2.heap.size
 obtain ⟨B,hB⟩:=exN W3.heap.size
 rw [hn0] at SX3 HZZ RS1 B3
 rw [hnb] at NV3 HZZ
 rw [hB] at HZZ
 rw [hn0]
 rw [show n0 + 1 = nb from HZZ.out.1.symm]
 have HN0 : Hid (w.heap.size < n0):=by rw [<- hn0]; exact X1.out.lt
 have HB3:=hideN hB
 have HN1:=hideN hn0
 obtain ⟨g,hg⟩:=exH n0
 have SX3' : Hid (SzX n0 W3 g (xs,false)):=by rw [<- hg.out]; exact SX3.out
 clear hn0 hnb hB SX3
 rw [hg.out]
 refine (zby9 n0 g (xs,false) W3 SX3'.out).mono ?_
 rintro e w4 ⟨rfl,⟨q0,q1⟩,hx4,ht4⟩
 obtain ⟨c,hc⟩ : ∃ c : Nat,(numZ (xs,false)).1 = (c : Int):=⟨(numZ (xs,false)).1.toNat,by omega⟩
 rw [hc] at HP9 q1
 rw [ht1.out] at hx4
 have HP : Hid (p9 = pzN lf t1 c):=HP9.out
 have hc255 : c <= 255:=by omega
 have R4 : Hid (Rs B n0 w4 g nb (.slice none 0 0) (.slice none 0 0) (.slice none 0 0) (pzN lf t1 0)):=by
  have hgB : g < B:=by rw [<- hg.out]; have:=HZZ.out; omega
  have hgn : g ≠ nb:=by rw [<- hg.out]; have:=HZZ.out; omega
  exact ⟨hx4,NV3.out.tch ht4 (fun e => hgn e.symm),zal9 _ _ _,zal9 _ _ _,zal9 _ _ _,(fun j e => by cases e),hgn,hgB,by have:=HZZ.out; omega,by have:=HZZ.out; omega,by rw [<- HB3.out]; exact ht4.size⟩
 have BB4 : Hid (Below n0 W1 w4):=B3.out.trans (ht4.below (by rw [HB3.out]; have:=HZZ.out; omega) (fun k e => by rw [e,<- hg.out]; exact zn6 _))
 rw [hc]
 clear hx4 ht4 q0 q1 hc HP9 SX3' NV3 RS1 B3
 go_wp2_with fail
 go_loopw [14] (fun i wr => ∃ (k : Nat) (v1 v2 v3 : Value),k <= c /\ i = .int .i64 k /\ Hid (Rs B n0 wr g nb v1 v2 v3 (pzN lf t1 k)) /\ Hid (Below n0 W1 wr)) (fun i _ => c - (intOf i).toNat)
 case atStart => exact ⟨0,_,_,_,zn7 _,rfl,R4,BB4⟩
 case round =>
  clear R4 BB4
  obtain ⟨k,v1,v2,v3,hk,rfl,RA,BA⟩:=hrel
  obtain ⟨cw,rfl⟩ : ∃ cw,cw = wr:=⟨_,rfl⟩
  by_cases hlt : k < c
  ·have HSTEP : Hid (pzN lf t1 (k + 1) = pzStep (pzN lf t1 k)):=rfl
   have HLF : Hid ((pzN lf t1 k).n.lf = lf):=pzN_lf lf t1 k
   have HLEN : Hid ((pzN lf t1 k).n.ks.length <= 255 /\ (pzN lf t1 k).n.vs.length <= 255 /\ (pzN lf t1 k).n.kd.length <= 255):=by have:=zpa9 lf t1 k; show _ /\ _; omega
   obtain ⟨pk,hpk⟩:=exH (pzN lf t1 k)
   rw [hpk.out] at RA HSTEP HLF HLEN
   obtain ⟨v1a,v1l,v1c,e1⟩ : ∃ a l c,v1 = .slice a l c:=by obtain ⟨a,c,e⟩:=RA.out.k.long; exact ⟨a,_,c,e⟩
   subst e1
   have hS : cw.drew.cell? ⟨nb,1,none⟩ = some (.slice v1a v1l v1c):=RA.out.nv.c1
   have HTC : Hid (SzX n0 cw.drew g (pk).t):=RA.out.src.below ((Below.refl _ _).drew)
   have HTX:=hideN (zdx9 n0 g (pk).t cw.drew HTC.out)
   obtain ⟨sx,hsx⟩:=exH ((txtZ (pk).t).1)
   obtain ⟨tx,htx⟩:=exH ((txtZ (pk).t).2)
   rw [hsx.out,htx.out] at HTX
   have HLX : Hid ((strs (pk).n.ks).length + 1 <= 9223372036854775807 /\ ((strs (pk).n.ks).length + 1) * 16 <= 140737488355328):=by show _ /\ _; rw [zh9]; have:=HLEN.out; omega
   go_wp2_with fail
   refine beginW (S:=fun w' => w'.cell? ⟨nb,1,none⟩ = some (.slice v1a v1l v1c)) (t:=6) (by kernel_rfl) ?_
   refine tkW 0 (some 16) (.fieldAddr 93 (.tmp 7) 1) (Value.pointer (some ⟨nb,1,none⟩)) (by rintro o ho w' hS1; go_simp) hS ?_
   simp only [Act.put,qa,qb,qc]
   refine tkW 1 (some 17) (.load 91 (.tmp 16)) (Value.slice v1a v1l v1c) (by rintro o ho w' hS1; go_simp) hS ?_
   simp only [Act.put,qa,qb,qc]
   refine rdW 2 (some 18) (.call { callee:=.value (.func 167),args:=#[.tmp 6],argTypes:=#[235] }) ?_
   rintro o K hd ho hg hK
   refine zd9 (enters_of Tryz.func167 (by kernel_rfl) rfl) ho (vs:=#[.pointer (some ⟨g,0,none⟩)]) (by kernel_rfl) HTX.out ?_
   rintro e w1 ⟨rfl,hx1,ht1⟩
   refine ⟨_,rfl,?_⟩
   rw [hd]
   have HT1 : Hid (Tch (fun k => k = g) cw w1):=(Tch.refl _ cw).drew.trans ht1 (fun _ _ e => e)
   have hS1 : w1.cell? ⟨nb,1,none⟩ = some (.slice v1a v1l v1c):=(RA.out.nv.tch HT1.out (fun e => RA.out.gn e.symm)).c1
   have HX1:=hideN hx1
   have hSb : (w1.alloc (.cells #[.string sx] 9)).cell? ⟨nb,1,none⟩ = some (.slice v1a v1l v1c):=((RA.out.nv.tch HT1.out (fun e => RA.out.gn e.symm)).below (za9 _ _)).c1
   have HON : Hid (OwV B 9 (w1.alloc (.cells #[.string sx] 9)) (.slice v1a v1l v1c) (strs (pk).n.ks)):=(RA.out.k.tch HT1.out (fun x hx e => by have:=RA.out.k.ge x hx; have:=RA.out.gB; omega)).below (za9 _ _)
   have HBN : Hid (B <= (w1.alloc (.cells #[.string sx] 9)).heap.size):=zn2 RA.out.wB (zn2 HT1.out.size (za9 w1 _).size)
   refine hK _ _ (fun _ => hS1) ?_
   clear ho hd hg hK hx1 ht1
   simp only [Act.put,qa,qb,qc]
   refine rdW 3 (some 19) (.buildSlice 91 1 #[(0,.tmp 18)]) ?_
   rintro o K hd ho hg hK
   refine zez9 _ _ _ _ elemS (.tmp 18) ho (.string sx) rfl rfl ?_
   rw [hd]
   refine hK _ _ (fun _ => hSb) ?_
   clear ho hd hg hK
   simp only [Act.put,qa,qb,qc]
   refine rdW 4 (some 20) (.call { callee:=.builtin .append,args:=#[.tmp 17,.tmp 19],argTypes:=#[91,91] }) ?_
   rintro o K hd ho hg hK
   refine zgt9 _ _ _ _ elemS (w:=w1.alloc (.cells #[.string sx] 9)) (.tmp 17) (.tmp 19) ho B _ (strs (pk).n.ks) rfl HON.out w1.heap.size (.string sx) rfl rfl (zky9 _ _ _) HLX.out.1 HLX.out.2 HBN.out ?_
   intro v6 w6 o6 g6 f6
   obtain ⟨na,nc,e6⟩:=o6.long
   obtain ⟨nl,hnl⟩:=exH ((strs (pk).n.ks ++ [Value.string sx]).length)
   rw [hnl.out] at e6
   subst e6
   obtain ⟨⟨q6,r6⟩,rs7,b7⟩:=zmf9 RA.out HT1.out HX1.out (za9 _ _) g6 o6 f6
   rw [hd]
   refine hK _ _ (fun _ => q6) ?_
   clear ho hd hg hK o6 g6 f6
   simp only [Act.put,qa,qb,qc]
   refine rdW 5 (some 21) (.fieldAddr 93 (.tmp 7) 1) ?_
   rintro o K hd ho hg hK
   refine stepY (v:=Value.pointer (some ⟨nb,1,none⟩)) ?hy ?_
   case hy => go_simp
   rw [hd]
   refine hK _ _ (fun _ => q6) ?_
   clear ho hd hg hK
   simp only [Act.put,qa,qb,qc]
   refine rdW 6 none (.store 91 (.tmp 21) (.tmp 20)) ?_
   rintro o K hd ho hg hK
   refine zia9 ho rfl rfl q6 r6 ?_
   rw [hd]
   refine hK _ _ (fun e => absurd rfl e) ?_
   refine doneW (by kernel_rfl) ?_ _
   clear ho hd hg hK hnl
   simp only [Act.put]
   have RB:=hideN rs7
   have BRB:=hideN b7
   clear rs7 b7 q6 r6 hS hS1 hSb HTC HTX HLX HT1 HX1 HON HBN
   obtain ⟨c5,hc5⟩:=exH (w6.setCell ⟨nb,1,none⟩ (.slice na nl nc))
   rw [hc5.out] at RB BRB
   rw [hc5.out]
   have BB : Hid (Below n0 W1 c5):=BA.out.trans BRB.out
   obtain ⟨p5,hp5⟩ : ∃ p : Pz,Hid ((⟨{ pk.n with ks:=pk.n.ks ++ [sx] },tx⟩ : Pz) = p):=⟨_,rfl⟩
   have HLEN5 : Hid (p5.n.vs.length <= 255 /\ p5.n.kd.length <= 255):=by rw [<- hp5.out]; exact HLEN.out.2
   rw [hp5.out] at RB
   clear BRB hc5 BA RA HLEN
   cases lf with
   | true =>
    have HLEN : Hid (p5.n.vs.length <= 255):=HLEN5.out.1
    obtain ⟨v2a,v2l,v2c,e2⟩ : ∃ a l c,v2 = .slice a l c:=by obtain ⟨a,c,e⟩:=RB.out.v.long; exact ⟨a,_,c,e⟩
    subst e2
    have hS : c5.drew.cell? ⟨nb,2,none⟩ = some (.slice v2a v2l v2c):=RB.out.nv.c2
    have HTC : Hid (SzX n0 c5.drew g (p5).t):=RB.out.src.below ((Below.refl _ _).drew)
    have HTX:=hideN (zdx9 n0 g (p5).t c5.drew HTC.out)
    obtain ⟨sx',hsx'⟩ : ∃ s,Hid ((txtZ (p5).t).1 = s):=⟨_,rfl⟩
    obtain ⟨tx',htx'⟩ : ∃ t,Hid ((txtZ (p5).t).2 = t):=⟨_,rfl⟩
    rw [hsx'.out,htx'.out] at HTX
    have HLX : Hid ((strs (p5).n.vs).length + 1 <= 9223372036854775807 /\ ((strs (p5).n.vs).length + 1) * 16 <= 140737488355328):=by show _ /\ _; rw [zh9]; have:=HLEN.out; omega
    go_wp2_with fail
    refine beginW (S:=fun w' => w'.cell? ⟨nb,2,none⟩ = some (.slice v2a v2l v2c)) (t:=6) (by kernel_rfl) ?_
    refine tkW 0 (some 23) (.fieldAddr 93 (.tmp 7) 2) (Value.pointer (some ⟨nb,2,none⟩)) (by rintro o ho w' hS1; go_simp) hS ?_
    simp only [Act.put,qa,qb,qc]
    refine tkW 1 (some 24) (.load 91 (.tmp 23)) (Value.slice v2a v2l v2c) (by rintro o ho w' hS1; go_simp) hS ?_
    simp only [Act.put,qa,qb,qc]
    refine rdW 2 (some 25) (.call { callee:=.value (.func 167),args:=#[.tmp 6],argTypes:=#[235] }) ?_
    rintro o K hd ho hg hK
    refine zd9 (enters_of Tryz.func167 (by kernel_rfl) rfl) ho (vs:=#[.pointer (some ⟨g,0,none⟩)]) (by kernel_rfl) HTX.out ?_
    rintro e w1 ⟨rfl,hx1,ht1⟩
    refine ⟨_,rfl,?_⟩
    rw [hd]
    have HT1 : Hid (Tch (fun k => k = g) c5 w1):=(Tch.refl _ c5).drew.trans ht1 (fun _ _ e => e)
    have hS1 : w1.cell? ⟨nb,2,none⟩ = some (.slice v2a v2l v2c):=(RB.out.nv.tch HT1.out (fun e => RB.out.gn e.symm)).c2
    have HX1:=hideN hx1
    have hSb : (w1.alloc (.cells #[.string sx'] 9)).cell? ⟨nb,2,none⟩ = some (.slice v2a v2l v2c):=((RB.out.nv.tch HT1.out (fun e => RB.out.gn e.symm)).below (za9 _ _)).c2
    have HON : Hid (OwV B 9 (w1.alloc (.cells #[.string sx'] 9)) (.slice v2a v2l v2c) (strs (p5).n.vs)):=(RB.out.v.tch HT1.out (fun x hx e => by have:=RB.out.v.ge x hx; have:=RB.out.gB; omega)).below (za9 _ _)
    have HBN : Hid (B <= (w1.alloc (.cells #[.string sx'] 9)).heap.size):=zn2 RB.out.wB (zn2 HT1.out.size (za9 w1 _).size)
    refine hK _ _ (fun _ => hS1) ?_
    clear ho hd hg hK hx1 ht1
    simp only [Act.put,qa,qb,qc]
    refine rdW 3 (some 26) (.buildSlice 91 1 #[(0,.tmp 25)]) ?_
    rintro o K hd ho hg hK
    refine zez9 _ _ _ _ elemS (.tmp 25) ho (.string sx') rfl rfl ?_
    rw [hd]
    refine hK _ _ (fun _ => hSb) ?_
    clear ho hd hg hK
    simp only [Act.put,qa,qb,qc]
    refine rdW 4 (some 27) (.call { callee:=.builtin .append,args:=#[.tmp 24,.tmp 26],argTypes:=#[91,91] }) ?_
    rintro o K hd ho hg hK
    refine zgt9 _ _ _ _ elemS (w:=w1.alloc (.cells #[.string sx'] 9)) (.tmp 24) (.tmp 26) ho B _ (strs (p5).n.vs) rfl HON.out w1.heap.size (.string sx') rfl rfl (zky9 _ _ _) HLX.out.1 HLX.out.2 HBN.out ?_
    intro v6 w6' o6 g6 f6
    obtain ⟨na',nc',e6⟩:=o6.long
    obtain ⟨nl',hnl⟩ : ∃ l,Hid ((strs (p5).n.vs ++ [Value.string sx']).length = l):=⟨_,rfl⟩
    rw [hnl.out] at e6
    subst e6
    obtain ⟨⟨q6,r6⟩,rs7,b7⟩:=zmh9 RB.out HT1.out HX1.out (za9 _ _) g6 o6 f6
    rw [hd]
    refine hK _ _ (fun _ => q6) ?_
    clear ho hd hg hK o6 g6 f6
    simp only [Act.put,qa,qb,qc]
    refine rdW 5 (some 28) (.fieldAddr 93 (.tmp 7) 2) ?_
    rintro o K hd ho hg hK
    refine stepY (v:=Value.pointer (some ⟨nb,2,none⟩)) ?hy ?_
    case hy => go_simp
    rw [hd]
    refine hK _ _ (fun _ => q6) ?_
    clear ho hd hg hK
    simp only [Act.put,qa,qb,qc]
    refine rdW 6 none (.store 91 (.tmp 28) (.tmp 27)) ?_
    rintro o K hd ho hg hK
    refine zia9 ho rfl rfl q6 r6 ?_
    rw [hd]
    refine hK _ _ (fun e => absurd rfl e) ?_
    refine doneW (by kernel_rfl) ?_ _
    clear ho hd hg hK hnl
    simp only [Act.put]
    have RC:=hideN rs7
    have BRC:=hideN b7
    clear rs7 b7 q6 r6 hS hS1 hSb HTC HTX HLX HT1 HX1 HON HBN
    obtain ⟨c7,hc7⟩:=exH (w6'.setCell ⟨nb,2,none⟩ (.slice na' nl' nc'))
    rw [hc7.out] at RC BRC
    rw [hc7.out]
    have BE : Hid (Below n0 W1 c7):=BB.out.trans BRC.out
    have RE : Hid (Rs B n0 c7 g nb (.slice na nl nc) (.slice na' nl' nc') v3 (pzN true t1 (k + 1))):=by
     rw [HSTEP.out]
     unfold pzStep
     rw [if_pos HLF.out,hsx.out,htx.out]
     have h5 : p5.t = tx /\ p5.n = { pk.n with ks:=pk.n.ks ++ [sx] }:=by rw [<- hp5.out]; exact ⟨rfl,rfl⟩
     rw [h5.1] at hsx' htx'
     rw [hsx'.out,htx'.out]
     have:=RC.out
     rw [h5.2] at this
     exact this
    clear RC BRC hc7 RB BB
    go_wp2_with fail
    go_roundw
    case rel => exact ⟨k + 1,_,_,_,by omega,by go_num,RE,BE⟩
    case measure => simp [intOf]; omega
   | false =>
    go_wp2_with fail
    refine (zby9 n0 g p5.t c5 RB.out.src).mono ?_
    rintro e w8 ⟨rfl,⟨lo0,lo1⟩,hx8,ht8⟩
    obtain ⟨lo,hlo⟩:=exH ((numZ p5.t).1)
    obtain ⟨t8,ht8'⟩ : ∃ t,Hid ((numZ p5.t).2 = t):=⟨_,rfl⟩
    rw [ht8'.out] at hx8
    rw [hlo.out] at lo0 lo1
    rw [hlo.out]
    obtain ⟨rs8,b8⟩:=RB.out.num ht8 hx8
    obtain ⟨p8,hp8⟩ : ∃ p : Pz,Hid ((⟨p5.n,t8⟩ : Pz) = p):=⟨_,rfl⟩
    have HLEN : Hid (p8.n.kd.length <= 255):=by rw [<- hp8.out]; exact HLEN5.out.2
    rw [hp8.out] at rs8
    have RD:=hideN rs8
    have BD : Hid (Below n0 W1 w8):=BB.out.trans b8
    clear hx8 ht8 rs8 b8 RB BB
    obtain ⟨v3a,v3l,v3c,e3⟩ : ∃ a l c,v3 = .slice a l c:=by obtain ⟨a,c,e⟩:=RD.out.d.long; exact ⟨a,_,c,e⟩
    subst e3
    have hS : w8.drew.cell? ⟨nb,3,none⟩ = some (.slice v3a v3l v3c):=RD.out.nv.c3
    have HTC : Hid (SzX n0 w8.drew g (p8).t):=RD.out.src.below ((Below.refl _ _).drew)
    have HTX:=hideN (zby9 n0 g (p8).t w8.drew HTC.out)
    obtain ⟨hi,hhi⟩:=exH ((numZ (p8).t).1)
    obtain ⟨tx',htx'⟩ : ∃ t,Hid ((numZ (p8).t).2 = t):=⟨_,rfl⟩
    rw [hhi.out,htx'.out] at HTX
    have HLX : Hid ((nums (p8).n.kd).length + 1 <= 9223372036854775807 /\ ((nums (p8).n.kd).length + 1) * 8 <= 140737488355328):=by show _ /\ _; rw [zn9]; have:=HLEN.out; omega
    go_wp2_with fail
    refine beginW (S:=fun w' => w'.cell? ⟨nb,3,none⟩ = some (.slice v3a v3l v3c)) (t:=9) (by kernel_rfl) ?_
    refine tkW 0 (some 30) (.fieldAddr 93 (.tmp 7) 3) (Value.pointer (some ⟨nb,3,none⟩)) (by rintro o ho w' hS1; go_simp) hS ?_
    simp only [Act.put,qa,qb,qc]
    refine tkW 1 (some 31) (.load 56 (.tmp 30)) (Value.slice v3a v3l v3c) (by rintro o ho w' hS1; go_simp) hS ?_
    simp only [Act.put,qa,qb,qc]
    refine tkW 2 (some 32) (.move (.tmp 8)) (Value.int .i64 lo) (by rintro o ho w' hS1; go_simp) hS ?_
    simp only [Act.put,qa,qb,qc]
    refine rdW 3 (some 33) (.call { callee:=.value (.func 166),args:=#[.tmp 6],argTypes:=#[235] }) ?_
    rintro o K hd ho hg hK
    refine zd9 (enters_of Tryz.func166 (by kernel_rfl) rfl) ho (vs:=#[.pointer (some ⟨g,0,none⟩)]) (by kernel_rfl) HTX.out ?_
    rintro e w1 ⟨rfl,⟨hi0,hi1⟩,hx1,ht1⟩
    refine ⟨_,rfl,?_⟩
    rw [hd]
    have HT1 : Hid (Tch (fun k => k = g) w8 w1):=(Tch.refl _ w8).drew.trans ht1 (fun _ _ e => e)
    have hS1 : w1.cell? ⟨nb,3,none⟩ = some (.slice v3a v3l v3c):=(RD.out.nv.tch HT1.out (fun e => RD.out.gn e.symm)).c3
    have HX1:=hideN hx1
    have hSb : (w1.alloc (.cells #[.int .i64 (lo + hi * 256)] 3)).cell? ⟨nb,3,none⟩ = some (.slice v3a v3l v3c):=((RD.out.nv.tch HT1.out (fun e => RD.out.gn e.symm)).below (za9 _ _)).c3
    have HON : Hid (OwV B 3 (w1.alloc (.cells #[.int .i64 (lo + hi * 256)] 3)) (.slice v3a v3l v3c) (nums (p8).n.kd)):=(RD.out.d.tch HT1.out (fun x hx e => by have:=RD.out.d.ge x hx; have:=RD.out.gB; omega)).below (za9 _ _)
    have HBN : Hid (B <= (w1.alloc (.cells #[.int .i64 (lo + hi * 256)] 3)).heap.size):=zn2 RD.out.wB (zn2 HT1.out.size (za9 w1 _).size)
    have m1 : IntKind.i64.wrap (hi * 256) = hi * 256:=by rw [IntKind.wrap_i64]; omega
    have m2 : IntKind.i64.wrap (lo + hi * 256) = lo + hi * 256:=by rw [IntKind.wrap_i64]; omega
    refine hK _ _ (fun _ => hS1) ?_
    clear ho hd hg hK hx1 ht1
    simp only [Act.put,qa,qb,qc]
    refine rdW 4 (some 34) (.binOp .shl 3 (.tmp 33) (.const (.int .u64 8)) 164) ?_
    rintro o K hd ho hg hK
    refine stepY (v:=Value.int .i64 (hi * 256)) ?hy ?_
    case hy => go_simp
    rw [hd]
    refine hK _ _ (fun _ => hS1) ?_
    clear ho hd hg hK
    simp only [Act.put,qa,qb,qc]
    refine rdW 5 (some 35) (.binOp .add 3 (.tmp 32) (.tmp 34) 3) ?_
    rintro o K hd ho hg hK
    refine stepY (v:=Value.int .i64 (lo + hi * 256)) ?hy ?_
    case hy => go_simp
    rw [hd]
    refine hK _ _ (fun _ => hS1) ?_
    clear ho hd hg hK
    simp only [Act.put,qa,qb,qc]
    refine rdW 6 (some 36) (.buildSlice 56 1 #[(0,.tmp 35)]) ?_
    rintro o K hd ho hg hK
    refine zez9 _ _ _ _ elemIN (.tmp 35) ho (.int .i64 (lo + hi * 256)) rfl rfl ?_
    rw [hd]
    refine hK _ _ (fun _ => hSb) ?_
    clear ho hd hg hK
    simp only [Act.put,qa,qb,qc]
    refine rdW 7 (some 37) (.call { callee:=.builtin .append,args:=#[.tmp 31,.tmp 36],argTypes:=#[56,56] }) ?_
    rintro o K hd ho hg hK
    refine zgt9 _ _ _ _ elemIN (w:=w1.alloc (.cells #[.int .i64 (lo + hi * 256)] 3)) (.tmp 31) (.tmp 36) ho B _ (nums (p8).n.kd) rfl HON.out w1.heap.size (.int .i64 (lo + hi * 256)) rfl rfl (zky9 _ _ _) HLX.out.1 HLX.out.2 HBN.out ?_
    intro v6 w6' o6 g6 f6
    obtain ⟨na',nc',e6⟩:=o6.long
    obtain ⟨nl',hnl⟩ : ∃ l,Hid ((nums (p8).n.kd ++ [Value.int .i64 (lo + hi * 256)]).length = l):=⟨_,rfl⟩
    rw [hnl.out] at e6
    subst e6
    obtain ⟨⟨q6,r6⟩,rs7,b7⟩:=zmg9 RD.out HT1.out HX1.out (za9 _ _) g6 o6 f6
    rw [hd]
    refine hK _ _ (fun _ => q6) ?_
    clear ho hd hg hK o6 g6 f6
    simp only [Act.put,qa,qb,qc]
    refine rdW 8 (some 38) (.fieldAddr 93 (.tmp 7) 3) ?_
    rintro o K hd ho hg hK
    refine stepY (v:=Value.pointer (some ⟨nb,3,none⟩)) ?hy ?_
    case hy => go_simp
    rw [hd]
    refine hK _ _ (fun _ => q6) ?_
    clear ho hd hg hK
    simp only [Act.put,qa,qb,qc]
    refine rdW 9 none (.store 56 (.tmp 38) (.tmp 37)) ?_
    rintro o K hd ho hg hK
    refine zoa9 ho rfl rfl q6 r6 ?_
    rw [hd]
    refine hK _ _ (fun e => absurd rfl e) ?_
    refine doneW (by kernel_rfl) ?_ _
    clear ho hd hg hK hnl
    simp only [Act.put]
    have RC:=hideN rs7
    have BRC:=hideN b7
    clear rs7 b7 q6 r6 hS hS1 hSb HTC HTX HLX HT1 HX1 HON HBN m1 m2
    obtain ⟨c7,hc7⟩:=exH (w6'.setCell ⟨nb,3,none⟩ (.slice na' nl' nc'))
    rw [hc7.out] at RC BRC
    rw [hc7.out]
    have BE : Hid (Below n0 W1 c7):=BD.out.trans BRC.out
    have RE : Hid (Rs B n0 c7 g nb (.slice na nl nc) v2 (.slice na' nl' nc') (pzN false t1 (k + 1))):=by
     rw [HSTEP.out]
     unfold pzStep
     rw [if_neg (by rw [HLF.out]; decide),hsx.out,htx.out]
     have h5 : p5.t = tx /\ p5.n = { pk.n with ks:=pk.n.ks ++ [sx] }:=by rw [<- hp5.out]; exact ⟨rfl,rfl⟩
     have h8 : p8.t = t8 /\ p8.n = p5.n:=by rw [<- hp8.out]; exact ⟨rfl,rfl⟩
     rw [h5.1] at hlo ht8'
     rw [h8.1] at hhi htx'
     rw [hlo.out,ht8'.out,hhi.out,htx'.out]
     have:=RC.out
     rw [h8.2,h5.2] at this
     exact this
    clear RC BRC hc7 RD BD
    go_wp2_with fail
    go_roundw
    case rel => exact ⟨k + 1,_,_,_,by omega,by go_num,RE,BE⟩
    case measure => simp [intOf]; omega
  ·have hkc : k = c:=by omega
   rw [hkc,<- HP.out] at RA
   obtain ⟨lv,hsz⟩:=RA.out.src
   have hlf9 : p9.n.lf = lf:=by rw [HP.out]; exact pzN_lf lf t1 c
   have hnv:=RA.out.nv
   rw [hlf9] at hnv
   have NV9:=hideN hnv
   obtain ⟨lva,lvc,elv,_⟩:=hsz.rs.rd
   have SZ9:=hideN hsz
   obtain ⟨rest,sh⟩:=exH p9.t
   obtain ⟨rx,sb⟩:=rest
   rw [sh.out] at elv SZ9
   simp only at elv
   obtain ⟨R,hR⟩:=exH rx.length
   rw [hR.out] at elv
   subst elv
   have HOK : Hid (ok = (!sb && decide (R = 0))):=by show _ = _; rw [<- hok.out]; unfold rdOk; rw [sh.out,<- hR.out]
   have X9:=hideN (X1.out.below (BA.out.mono (by rw [HN1.out]; exact zn6 _)))
   obtain ⟨v1a,v1l,v1c,e1⟩ : ∃ a l c,v1 = .slice a l c:=by obtain ⟨a,c,e⟩:=RA.out.k.long; exact ⟨a,_,c,e⟩
   obtain ⟨v2a,v2l,v2c,e2⟩ : ∃ a l c,v2 = .slice a l c:=by obtain ⟨a,c,e⟩:=RA.out.v.long; exact ⟨a,_,c,e⟩
   obtain ⟨v3a,v3l,v3c,e3⟩ : ∃ a l c,v3 = .slice a l c:=by obtain ⟨a,c,e⟩:=RA.out.d.long; exact ⟨a,_,c,e⟩
   subst e1 e2 e3
   obtain ⟨WA,hWA⟩:=exH (((((cw.setCell ⟨w.heap.size,0,none⟩ (.bool lf)).setCell ⟨w.heap.size,1,none⟩ (.slice v1a v1l v1c)).setCell ⟨w.heap.size,2,none⟩ (.slice v2a v2l v2c)).setCell ⟨w.heap.size,3,none⟩ (.slice v3a v3l v3c)).drew)
   have hgw : ¬ w.heap.size = g:=by rw [<- hg.out]; have:=HN0.out; omega
   have hgw2 : ¬ g = w.heap.size:=by rw [<- hg.out]; have:=HN0.out; omega
   have hnw : ¬ nb = w.heap.size:=by have:=HN0.out; have:=RA.out.n0; omega
   have hnw2 : ¬ w.heap.size = nb:=by have:=HN0.out; have:=RA.out.n0; omega
   have YA : Hid (Nb WA 93 w.heap.size lf (.slice v1a v1l v1c) (.slice v2a v2l v2c) (.slice v3a v3l v3c)):=by rw [<- hWA.out]; exact (X9.out.all _ _ _ _).below (Below.refl _ _).drew
   have tA : Tch (fun j => j = w.heap.size) cw WA:=by rw [<- hWA.out]; exact (zg9 cw _ _ _ _ _).drew
   have OA : Hid (Ow3 w.heap.size WA p9.n (.slice v1a v1l v1c) (.slice v2a v2l v2c) (.slice v3a v3l v3c)):=by
    have h1:=HN0.out
    have h2:=RA.out.n0
    have h3:=RA.out.nB
    exact (Ow3.tch (⟨RA.out.k,RA.out.v,RA.out.d,RA.out.ap⟩ : Ow3 _ _ _ _ _ _) tA (fun j hj e => by
     rcases hj with q | q | q
     ·have:=RA.out.k.ge j q; omega
     ·have:=RA.out.v.ge j q; omega
     ·have:=RA.out.d.ge j q; omega)).less (by omega)
   have bA : Below w.heap.size w cw:=B1.out.trans (BA.out.mono (Nat.le_of_lt HN0.out))
   have BF : Hid (Below w.heap.size w WA):=bA.trans (tA.below bA.size (fun j e => by omega))
   have y0:=NV9.out.c0
   have y1:=NV9.out.c1
   have y2:=NV9.out.c2
   have y3:=NV9.out.c3
   have u0:=SZ9.out.c0
   have u1:=SZ9.out.c1
   have x0:=X9.out.c0
   have x1:=X9.out.c1
   have x2:=X9.out.c2
   have x3:=X9.out.c3
   have f0:=X9.out.fz 0
   have f1:=X9.out.fz 1
   have f2:=X9.out.fz 2
   have f3:=X9.out.fz 3
   simp only at u1
   clear hsz hnv hlf9 tA bA RA BA
   cases sb with
   | true =>
    obtain rfl : ok = false:=HOK.out
    clear HOK
    go_wp2_with fail
    go_region
    go_wp2_with fail
    rw [hWA.out]
    refine bodyPost_ret (v:=.tuple #[nod lf (.slice v1a v1l v1c) (.slice v2a v2l v2c) (.slice v3a v3l v3c),.bool false]) (ze9 (p:=4) (ty:=93) rfl _ _ _ w.heap.size _ _ rfl YA.out.load rfl) rfl ?_
    exact ⟨⟨_,_,_,rfl,OA.out⟩,BF.out⟩
   | false =>
    by_cases hR0 : R = 0
    ·have e0 : ((R : Int) == 0) = true:=by rw [beq_iff_eq]; omega
     obtain rfl : ok = true:=by rw [HOK.out]; simp [hR0]
     clear HOK hR0
     go_wp2_with fail
     go_region
     go_wp2_with fail
     rw [hWA.out]
     refine bodyPost_ret (v:=.tuple #[nod lf (.slice v1a v1l v1c) (.slice v2a v2l v2c) (.slice v3a v3l v3c),.bool true]) (ze9 (p:=4) (ty:=93) rfl _ _ _ w.heap.size _ _ rfl YA.out.load rfl) rfl ?_
     exact ⟨⟨_,_,_,rfl,OA.out⟩,BF.out⟩
    ·have e0 : ((R : Int) == 0) = false:=by rw [beq_eq_false_iff_ne]; omega
     obtain rfl : ok = false:=by rw [HOK.out]; simp [hR0]
     clear HOK hR0
     go_wp2_with fail
     go_region
     go_wp2_with fail
     rw [hWA.out]
     refine bodyPost_ret (v:=.tuple #[nod lf (.slice v1a v1l v1c) (.slice v2a v2l v2c) (.slice v3a v3l v3c),.bool false]) (ze9 (p:=4) (ty:=93) rfl _ _ _ w.heap.size _ _ rfl YA.out.load rfl) rfl ?_
     exact ⟨⟨_,_,_,rfl,OA.out⟩,BF.out⟩
theorem zbz9 {t : List Int × Bool} (h : By t.1) (m : Nat) : By (takeZ t m).2.1:=by
 unfold takeZ
 split
 ·exact h
 ·exact h.dropN m
theorem zow9 {t : List Int × Bool} (h : By t.1) : 0 <= (numZ t).1 /\ (numZ t).1 <= 255:=zmb9 h 1 0
theorem zph9 {t : List Int × Bool} (h : By t.1) : (txtZ t).1.size <= 255 /\ By (txtZ t).2.1:=by
 have h1:=zow9 h
 have h2 : By (numZ t).2.1:=zbz9 h 1
 refine ⟨?_,zbz9 h2 _⟩
 unfold txtZ
 simp only
 rw [strOfNums_size]
 rcases zhx9 (numZ t).2 (numZ t).1.toNat with e | e <;> omega
theorem znn9 (lf : Bool) {t : List Int × Bool} (h : By t.1) (k : Nat) : By (pzN lf t k).t.1 /\ (∀ s ∈ (pzN lf t k).n.ks,s.size <= 255) /\ (∀ s ∈ (pzN lf t k).n.vs,s.size <= 255):=by
 induction k with
 | zero => exact ⟨h,by simp [pzN],by simp [pzN]⟩
 | succ k ih =>
  obtain ⟨h1,h2,h3⟩:=ih
  have k1:=zph9 h1
  have k2:=zph9 k1.2
  have n1 : By (numZ (txtZ (pzN lf t k).t).2).2.1:=zbz9 k1.2 1
  have n2 : By (numZ (numZ (txtZ (pzN lf t k).t).2).2).2.1:=zbz9 n1 1
  simp only [pzN,pzStep]
  split
  ·refine ⟨k2.2,fun s hs => ?_,fun s hs => ?_⟩
   ·rcases List.mem_append.1 hs with e | e
    ·exact h2 s e
    ·rw [List.mem_singleton.1 e]; exact k1.1
   ·rcases List.mem_append.1 hs with e | e
    ·exact h3 s e
    ·rw [List.mem_singleton.1 e]; exact k2.1
  ·refine ⟨n2,fun s hs => ?_,h3⟩
   rcases List.mem_append.1 hs with e | e
   ·exact h2 s e
   ·rw [List.mem_singleton.1 e]; exact k1.1
theorem zbu9 {ss : List ByteArray} {m : Nat} (h : ∀ s ∈ ss,s.size <= m) (i : Nat) : (ss.getD i eS).size <= m:=by
 rw [zn3]
 cases e : ss[i]? with
 | none => exact zn7 _
 | some s => exact h s (List.mem_of_getElem? e)
theorem rdN_sm (lf : Bool) {xs : List Int} (h : By xs) : Sm (rdN lf xs).n:=by
 have hn:=zow9 (t:=(xs,false)) h
 have h1 : By (numZ (xs,false)).2.1:=zbz9 (t:=(xs,false)) h 1
 have h2:=znn9 lf h1 (numZ (xs,false)).1.toNat
 have h3:=zpa9 lf (numZ (xs,false)).2 (numZ (xs,false)).1.toNat
 unfold rdN
 exact ⟨fun i => zn2 (zbu9 h2.2.1 i) (by omega),fun i => zn2 (zbu9 h2.2.2 i) (by omega),by omega,by omega,by omega⟩
noncomputable def getN (kd : Int) (xs : List Int) : Option Nd:=if kd = 1 ∨ kd = 2 then (if (rdOk (rdN (decide (kd = 1)) xs) && mayN (rdN (decide (kd = 1)) xs).n) = true then some (rdN (decide (kd = 1)) xs).n else none) else none
def GetRN (kd : Int) (xs : List Int) (w : World) (e : Ending) (w' : World) : Prop:=
 ((∃ n v1 v2 v3,getN kd xs = some n /\ e = .returned (.tuple #[nod n.lf v1 v2 v3,.int .i64 0]) /\ Ow3 w.heap.size w' n v1 v2 v3) ∨ (getN kd xs = none /\ e = .returned (.tuple #[nod false (.slice none 0 0) (.slice none 0 0) (.slice none 0 0),.int .i64 7]))) /\ Below w.heap.size w w'
theorem zqd9 (kd : Int) (v : Value) (xs : List Int) (w : World) (hr : Rd .u8 w v xs) (hb : By xs) :
  Calls Tryz.prog 136 #[blN kd v] w fun e w' => GetRN kd xs w e w':=by
 obtain ⟨a,cap,rfl,h1,h2,_⟩:=id hr
 have HR:=hideN hr
 have HY:=hideN hb
 obtain ⟨L,hL⟩:=exH xs.length
 rw [hL.out] at HR h1 ⊢
 obtain ⟨W1,hW1⟩:=exN (w.alloc (.cells #[.int .i64 kd,.slice a L cap] 63))
 obtain ⟨W2,hW2⟩:=exN (W1.alloc (.cells #[.bool false,.slice none 0 0,.slice none 0 0,.slice none 0 0] 93))
 have b1 : Below w.heap.size w W1:=by rw [<- hW1]; exact za9 _ _
 have b2 : Below W1.heap.size W1 W2:=by rw [<- hW2]; exact za9 _ _
 have K1 : Kb W1 w.heap.size kd (.slice a L cap):=by rw [<- hW1]; exact kb_new _ _ _
 have HLT : Hid (w.heap.size < W1.heap.size):=K1.lt
 have K2 : Hid (Kb W2 w.heap.size kd (.slice a L cap)):=K1.below b2
 have X2 : Hid (Nb W2 93 W1.heap.size false (.slice none 0 0) (.slice none 0 0) (.slice none 0 0)):=by rw [<- hW2]; exact nb_new _ _ _ _ _ _
 have B2 : Hid (Below w.heap.size w W2):=b1.trans (b2.mono b1.size)
 have R2 : Hid (Rd .u8 W2 (.slice a L cap) xs):=HR.out.below B2.out
 have HBAD : Hid (∀ (W : World),getN kd xs = none -> Below W2.heap.size W2 W -> ∃ WA,((((W.setCell ⟨W1.heap.size,0,none⟩ (.bool false)).setCell ⟨W1.heap.size,1,none⟩ (.slice none 0 0)).setCell ⟨W1.heap.size,2,none⟩ (.slice none 0 0)).setCell ⟨W1.heap.size,3,none⟩ (.slice none 0 0) = WA) /\ Nb WA 93 W1.heap.size false (.slice none 0 0) (.slice none 0 0) (.slice none 0 0) /\ GetRN kd xs w (.returned (.tuple #[nod false (.slice none 0 0) (.slice none 0 0) (.slice none 0 0),.int .i64 7])) WA):=fun W hn hb => by
  have hx:=X2.out.below hb
  have t:=zg9 W W1.heap.size (.bool false) (.slice none 0 0) (.slice none 0 0) (.slice none 0 0)
  have bw : Below w.heap.size w W:=B2.out.trans (hb.mono B2.out.size)
  exact ⟨_,rfl,hx.all _ _ _ _,.inr ⟨hn,rfl⟩,bw.trans (t.below bw.size (fun j e => by have:=HLT.out; omega))⟩
 have q0:=K2.out.c0
 have q1:=K2.out.c1
 clear hr hb h2 b1 b2 K1
 unfold blN
 by_cases h12 : kd = 1 ∨ kd = 2
 ·have HG : Hid (getN kd xs = (if (rdOk (rdN (decide (kd = 1)) xs) && mayN (rdN (decide (kd = 1)) xs).n) = true then some (rdN (decide (kd = 1)) xs).n else none)):=by show _ = _; unfold getN; rw [if_pos h12]
  rcases h12 with rfl | rfl
  ·have HG2 : Hid (getN 1 xs = (if (rdOk (rdN true xs) && mayN (rdN true xs).n) = true then some (rdN true xs).n else none)):=HG.out
   have HRD:=hideN (zhq9 true _ xs W2 R2.out HY.out)
   have HSM : Hid (Sm (rdN true xs).n):=rdN_sm true HY.out
   have HLF : Hid ((rdN true xs).n.lf = true):=pzN_lf _ _ _
   obtain ⟨n,hn⟩:=exH ((rdN true xs).n)
   obtain ⟨ok,hok⟩:=exH (rdOk (rdN true xs))
   rw [hok.out] at HRD HG2
   rw [hn.out] at HRD HG2 HSM HLF
   clear HG
   go_enter Tryz.func136,Tryz.ntmps136
   go_wp2_with fail
   refine HRD.out.mono ?_
   rintro e w3 ⟨⟨v1,v2,v3,rfl,o3⟩,b3⟩
   have n3:=o3.nn
   have fr3:=o3.fr
   obtain ⟨a1,c1,a2,c2,a3,c3,rfl,rfl,rfl,_,_,_,_⟩:=n3.out
   obtain ⟨L1,hL1⟩:=exH n.ks.length
   obtain ⟨L2,hL2⟩:=exH n.vs.length
   obtain ⟨L3,hL3⟩:=exH n.kd.length
   rw [hL1.out,hL2.out,hL3.out] at n3 fr3 o3
   have FR:=hideN fr3
   rw [hL1.out,hL2.out,hL3.out]
   have N3:=hideN n3
   have B3:=hideN b3
   unfold nod
   obtain ⟨W4,hW4⟩:=exN (w3.alloc (.cells #[.bool true,.slice a1 L1 c1,.slice a2 L2 c2,.slice a3 L3 c3] 93))
   have b4 : Below w3.heap.size w3 W4:=by rw [<- hW4]; exact za9 _ _
   have V4 : Hid (Nb W4 93 w3.heap.size true (.slice a1 L1 c1) (.slice a2 L2 c2) (.slice a3 L3 c3)):=by rw [<- hW4]; exact nb_new _ _ _ _ _ _
   have N4 : Hid (Nn W4 n (.slice a1 L1 c1) (.slice a2 L2 c2) (.slice a3 L3 c3)):=n3.below b4
   have O4:=hideN (o3.below b4)
   have BB4 : Hid (Below W2.heap.size W2 W4):=b3.trans (b4.mono b3.size)
   clear n3 b3 b4 fr3 o3 HRD q0 q1 hW1 hW2
   cases ok with
   | false =>
    have HN : Hid (getN 1 xs = none):=by show _ = _; rw [HG2.out,if_neg (by simp)]
    obtain ⟨WA,hWA,hx,hf⟩:=HBAD.out W4 HN.out BB4.out
    have HX:=hideN hx
    have HF:=hideN hf
    have HWA:=hideN hWA
    have xx:=X2.out.below BB4.out
    have s0:=xx.c0
    have s1:=xx.c1
    have s2:=xx.c2
    have s3:=xx.c3
    have f0:=xx.fz 0
    have f1:=xx.fz 1
    have f2:=xx.fz 2
    have f3:=xx.fz 3
    clear hWA hx hf HBAD xx
    go_wp2_with fail
    rw [HWA.out]
    refine bodyPost_ret (v:=.tuple #[nod false (.slice none 0 0) (.slice none 0 0) (.slice none 0 0),.int .i64 7]) (ze9 (p:=2) (ty:=93) rfl _ _ _ W1.heap.size _ _ rfl HX.out.load rfl) rfl ?_
    exact HF.out
   | true =>
    have HM1 : Hid (Calls Tryz.prog 155 #[.agg #[.bool true,.slice a1 L1 c1,.slice a2 L2 c2,.slice a3 L3 c3]] W4 fun e w' => e = .returned (.bool (mayN n)) /\ Below W4.heap.size W4 w'):=by
     have:=zci9 n _ _ _ W4 N4.out HSM.out
     rw [HLF.out] at this
     exact this
    have p0:=V4.out.c0
    have p1:=V4.out.c1
    have p2:=V4.out.c2
    have p3:=V4.out.c3
    go_wp2_with fail
    refine HM1.out.mono ?_
    rintro e w5 ⟨rfl,b5⟩
    have B5 : Hid (Below W2.heap.size W2 w5):=BB4.out.trans (b5.mono BB4.out.size)
    have V5:=hideN (V4.out.below b5)
    have N5:=hideN (N4.out.below b5)
    have O5:=hideN (O4.out.below b5)
    clear b5 p0 p1 p2 p3 hW4 HM1
    cases hmn : mayN n with
    | false =>
     have HN : Hid (getN 1 xs = none):=by show _ = _; rw [HG2.out,hmn,if_neg (by simp)]
     clear hmn HG2
     obtain ⟨WA,hWA,hx,hf⟩:=HBAD.out w5 HN.out B5.out
     have HX:=hideN hx
     have HF:=hideN hf
     have HWA:=hideN hWA
     have xx:=X2.out.below B5.out
     have s0:=xx.c0
     have s1:=xx.c1
     have s2:=xx.c2
     have s3:=xx.c3
     have f0:=xx.fz 0
     have f1:=xx.fz 1
     have f2:=xx.fz 2
     have f3:=xx.fz 3
     clear hWA hx hf HBAD xx
     go_wp2_with fail
     rw [HWA.out]
     refine bodyPost_ret (v:=.tuple #[nod false (.slice none 0 0) (.slice none 0 0) (.slice none 0 0),.int .i64 7]) (ze9 (p:=2) (ty:=93) rfl _ _ _ W1.heap.size _ _ rfl HX.out.load rfl) rfl ?_
     exact HF.out
    | true =>
     have HGS : Hid (getN 1 xs = some n):=by show _ = _; rw [HG2.out,hmn,if_pos (by simp)]
     clear hmn HG2 HBAD
     have y0:=V5.out.c0
     have y1:=V5.out.c1
     have y2:=V5.out.c2
     have y3:=V5.out.c3
     have xx:=X2.out.below B5.out
     have s0:=xx.c0
     have s1:=xx.c1
     have s2:=xx.c2
     have s3:=xx.c3
     have f0:=xx.fz 0
     have f1:=xx.fz 1
     have f2:=xx.fz 2
     have f3:=xx.fz 3
     obtain ⟨WA,hWA⟩:=exH ((((w5.setCell ⟨W1.heap.size,0,none⟩ (.bool true)).setCell ⟨W1.heap.size,1,none⟩ (.slice a1 L1 c1)).setCell ⟨W1.heap.size,2,none⟩ (.slice a2 L2 c2)).setCell ⟨W1.heap.size,3,none⟩ (.slice a3 L3 c3))
     have YA : Hid (Nb WA 93 W1.heap.size true (.slice a1 L1 c1) (.slice a2 L2 c2) (.slice a3 L3 c3)):=by rw [<- hWA.out]; exact xx.all _ _ _ _
     have tA : Tch (fun j => j = W1.heap.size) w5 WA:=by rw [<- hWA.out]; exact zg9 _ _ _ _ _ _
     have hX : W1.heap.size < W2.heap.size:=X2.out.lt
     have NA : Hid (Nn WA n (.slice a1 L1 c1) (.slice a2 L2 c2) (.slice a3 L3 c3)):=N5.out.tch tA (fun j hj e => by have:=FR.out j (.inl hj); omega) (fun j hj e => by have:=FR.out j (.inr (.inl hj)); omega) (fun j hj e => by have:=FR.out j (.inr (.inr hj)); omega)
     have OA:=hideN ((O5.out.tch tA (fun j hj e => by have:=FR.out j hj; omega)).less (C:=w.heap.size) B2.out.size)
     have bw : Below w.heap.size w w5:=B2.out.trans (B5.out.mono B2.out.size)
     have BF : Hid (Below w.heap.size w WA):=bw.trans (tA.below bw.size (fun j e => by have:=HLT.out; omega))
     clear xx tA hX bw
     go_wp2_with fail
     rw [hWA.out]
     refine bodyPost_ret (v:=.tuple #[nod true (.slice a1 L1 c1) (.slice a2 L2 c2) (.slice a3 L3 c3),.int .i64 0]) (ze9 (p:=2) (ty:=93) rfl _ _ _ W1.heap.size _ _ rfl YA.out.load rfl) rfl ?_
     exact ⟨.inl ⟨n,_,_,_,HGS.out,by rw [HLF.out],OA.out⟩,BF.out⟩
  ·have HG2 : Hid (getN 2 xs = (if (rdOk (rdN false xs) && mayN (rdN false xs).n) = true then some (rdN false xs).n else none)):=HG.out
   have HRD:=hideN (zhq9 false _ xs W2 R2.out HY.out)
   have HSM : Hid (Sm (rdN false xs).n):=rdN_sm false HY.out
   have HLF : Hid ((rdN false xs).n.lf = false):=pzN_lf _ _ _
   obtain ⟨n,hn⟩:=exH ((rdN false xs).n)
   obtain ⟨ok,hok⟩:=exH (rdOk (rdN false xs))
   rw [hok.out] at HRD HG2
   rw [hn.out] at HRD HG2 HSM HLF
   clear HG
   go_enter Tryz.func136,Tryz.ntmps136
   go_wp2_with fail
   refine HRD.out.mono ?_
   rintro e w3 ⟨⟨v1,v2,v3,rfl,o3⟩,b3⟩
   have n3:=o3.nn
   have fr3:=o3.fr
   obtain ⟨a1,c1,a2,c2,a3,c3,rfl,rfl,rfl,_,_,_,_⟩:=n3.out
   obtain ⟨L1,hL1⟩:=exH n.ks.length
   obtain ⟨L2,hL2⟩:=exH n.vs.length
   obtain ⟨L3,hL3⟩:=exH n.kd.length
   rw [hL1.out,hL2.out,hL3.out] at n3 fr3 o3
   have FR:=hideN fr3
   rw [hL1.out,hL2.out,hL3.out]
   have N3:=hideN n3
   have B3:=hideN b3
   unfold nod
   obtain ⟨W4,hW4⟩:=exN (w3.alloc (.cells #[.bool false,.slice a1 L1 c1,.slice a2 L2 c2,.slice a3 L3 c3] 93))
   have b4 : Below w3.heap.size w3 W4:=by rw [<- hW4]; exact za9 _ _
   have V4 : Hid (Nb W4 93 w3.heap.size false (.slice a1 L1 c1) (.slice a2 L2 c2) (.slice a3 L3 c3)):=by rw [<- hW4]; exact nb_new _ _ _ _ _ _
   have N4 : Hid (Nn W4 n (.slice a1 L1 c1) (.slice a2 L2 c2) (.slice a3 L3 c3)):=n3.below b4
   have O4:=hideN (o3.below b4)
   have BB4 : Hid (Below W2.heap.size W2 W4):=b3.trans (b4.mono b3.size)
   clear n3 b3 b4 fr3 o3 HRD q0 q1 hW1 hW2
   cases ok with
   | false =>
    have HN : Hid (getN 2 xs = none):=by show _ = _; rw [HG2.out,if_neg (by simp)]
    obtain ⟨WA,hWA,hx,hf⟩:=HBAD.out W4 HN.out BB4.out
    have HX:=hideN hx
    have HF:=hideN hf
    have HWA:=hideN hWA
    have xx:=X2.out.below BB4.out
    have s0:=xx.c0
    have s1:=xx.c1
    have s2:=xx.c2
    have s3:=xx.c3
    have f0:=xx.fz 0
    have f1:=xx.fz 1
    have f2:=xx.fz 2
    have f3:=xx.fz 3
    clear hWA hx hf HBAD xx
    go_wp2_with fail
    rw [HWA.out]
    refine bodyPost_ret (v:=.tuple #[nod false (.slice none 0 0) (.slice none 0 0) (.slice none 0 0),.int .i64 7]) (ze9 (p:=2) (ty:=93) rfl _ _ _ W1.heap.size _ _ rfl HX.out.load rfl) rfl ?_
    exact HF.out
   | true =>
    have HM1 : Hid (Calls Tryz.prog 155 #[.agg #[.bool false,.slice a1 L1 c1,.slice a2 L2 c2,.slice a3 L3 c3]] W4 fun e w' => e = .returned (.bool (mayN n)) /\ Below W4.heap.size W4 w'):=by
     have:=zci9 n _ _ _ W4 N4.out HSM.out
     rw [HLF.out] at this
     exact this
    have p0:=V4.out.c0
    have p1:=V4.out.c1
    have p2:=V4.out.c2
    have p3:=V4.out.c3
    go_wp2_with fail
    refine HM1.out.mono ?_
    rintro e w5 ⟨rfl,b5⟩
    have B5 : Hid (Below W2.heap.size W2 w5):=BB4.out.trans (b5.mono BB4.out.size)
    have V5:=hideN (V4.out.below b5)
    have N5:=hideN (N4.out.below b5)
    have O5:=hideN (O4.out.below b5)
    clear b5 p0 p1 p2 p3 hW4 HM1
    cases hmn : mayN n with
    | false =>
     have HN : Hid (getN 2 xs = none):=by show _ = _; rw [HG2.out,hmn,if_neg (by simp)]
     clear hmn HG2
     obtain ⟨WA,hWA,hx,hf⟩:=HBAD.out w5 HN.out B5.out
     have HX:=hideN hx
     have HF:=hideN hf
     have HWA:=hideN hWA
     have xx:=X2.out.below B5.out
     have s0:=xx.c0
     have s1:=xx.c1
     have s2:=xx.c2
     have s3:=xx.c3
     have f0:=xx.fz 0
     have f1:=xx.fz 1
     have f2:=xx.fz 2
     have f3:=xx.fz 3
     clear hWA hx hf HBAD xx
     go_wp2_with fail
     rw [HWA.out]
     refine bodyPost_ret (v:=.tuple #[nod false (.slice none 0 0) (.slice none 0 0) (.slice none 0 0),.int .i64 7]) (ze9 (p:=2) (ty:=93) rfl _ _ _ W1.heap.size _ _ rfl HX.out.load rfl) rfl ?_
     exact HF.out
    | true =>
     have HGS : Hid (getN 2 xs = some n):=by show _ = _; rw [HG2.out,hmn,if_pos (by simp)]
     clear hmn HG2 HBAD
     have y0:=V5.out.c0
     have y1:=V5.out.c1
     have y2:=V5.out.c2
     have y3:=V5.out.c3
     have xx:=X2.out.below B5.out
     have s0:=xx.c0
     have s1:=xx.c1
     have s2:=xx.c2
     have s3:=xx.c3
     have f0:=xx.fz 0
     have f1:=xx.fz 1
     have f2:=xx.fz 2
     have f3:=xx.fz 3
     obtain ⟨WA,hWA⟩:=exH ((((w5.setCell ⟨W1.heap.size,0,none⟩ (.bool false)).setCell ⟨W1.heap.size,1,none⟩ (.slice a1 L1 c1)).setCell ⟨W1.heap.size,2,none⟩ (.slice a2 L2 c2)).setCell ⟨W1.heap.size,3,none⟩ (.slice a3 L3 c3))
     have YA : Hid (Nb WA 93 W1.heap.size false (.slice a1 L1 c1) (.slice a2 L2 c2) (.slice a3 L3 c3)):=by rw [<- hWA.out]; exact xx.all _ _ _ _
     have tA : Tch (fun j => j = W1.heap.size) w5 WA:=by rw [<- hWA.out]; exact zg9 _ _ _ _ _ _
     have hX : W1.heap.size < W2.heap.size:=X2.out.lt
     have NA : Hid (Nn WA n (.slice a1 L1 c1) (.slice a2 L2 c2) (.slice a3 L3 c3)):=N5.out.tch tA (fun j hj e => by have:=FR.out j (.inl hj); omega) (fun j hj e => by have:=FR.out j (.inr (.inl hj)); omega) (fun j hj e => by have:=FR.out j (.inr (.inr hj)); omega)
     have OA:=hideN ((O5.out.tch tA (fun j hj e => by have:=FR.out j hj; omega)).less (C:=w.heap.size) B2.out.size)
     have bw : Below w.heap.size w w5:=B2.out.trans (B5.out.mono B2.out.size)
     have BF : Hid (Below w.heap.size w WA):=bw.trans (tA.below bw.size (fun j e => by have:=HLT.out; omega))
     clear xx tA hX bw
     go_wp2_with fail
     rw [hWA.out]
     refine bodyPost_ret (v:=.tuple #[nod false (.slice a1 L1 c1) (.slice a2 L2 c2) (.slice a3 L3 c3),.int .i64 0]) (ze9 (p:=2) (ty:=93) rfl _ _ _ W1.heap.size _ _ rfl YA.out.load rfl) rfl ?_
     exact ⟨.inl ⟨n,_,_,_,HGS.out,by rw [HLF.out],OA.out⟩,BF.out⟩
 ·have n1 : (kd != 1) = true:=by simp; omega
  have n2 : (kd != 2) = true:=by simp; omega
  have hn : getN kd xs = none:=by unfold getN; rw [if_neg h12]
  obtain ⟨WA,hWA,hx,hf⟩:=HBAD.out W2 hn (Below.refl _ _)
  have HX:=hideN hx
  have HF:=hideN hf
  have HWA:=hideN hWA
  have s0:=X2.out.c0
  have s1:=X2.out.c1
  have s2:=X2.out.c2
  have s3:=X2.out.c3
  have f0:=X2.out.fz 0
  have f1:=X2.out.fz 1
  have f2:=X2.out.fz 2
  have f3:=X2.out.fz 3
  clear h12 hWA hx hf hn HBAD
  go_enter Tryz.func136,Tryz.ntmps136
  go_wp2_with fail
  rw [HWA.out]
  refine bodyPost_ret (v:=.tuple #[nod false (.slice none 0 0) (.slice none 0 0) (.slice none 0 0),.int .i64 7]) (ze9 (p:=2) (ty:=93) rfl _ _ _ W1.heap.size _ _ rfl HX.out.load rfl) rfl ?_
  exact HF.out
theorem zhw9 (a r : List Int) : takeZ (a ++ r,false) a.length = (a,(r,false)):=by
 unfold takeZ
 rw [if_neg (by simp)]
 simp
theorem zco9 (x : Int) (r : List Int) : numZ (x :: r,false) = (x,(r,false)):=by
 unfold numZ
 have:=zhw9 [x] r
 simp only [List.singleton_append,List.length_singleton] at this
 rw [this]
 rfl
theorem zgn9 (s : ByteArray) (r : List Int) : txtZ ((s.size : Int) :: (bts s ++ r),false) = (s,(r,false)):=by
 unfold txtZ
 rw [zco9]
 have h:=zhw9 (bts s) r
 rw [zfb9] at h
 simp only [Int.toNat_natCast]
 rw [h]
 simp only [ztu9]
def rstN (n : Nd) : Nat -> List Int
 | 0 => []
 | j + 1 => itm n (n.ks.length - (j + 1)) ++ rstN n j
theorem zli9 (n : Nd) {k : Nat} (h : k < n.ks.length) : rstN n (n.ks.length - k) = itm n k ++ rstN n (n.ks.length - (k + 1)):=by
 obtain ⟨j,hj⟩ : ∃ j,n.ks.length - k = j + 1:=⟨n.ks.length - k - 1,by omega⟩
 rw [hj]
 have e1 : n.ks.length - (k + 1) = j:=by omega
 have e2 : n.ks.length - (j + 1) = k:=by omega
 rw [e1]
 simp only [rstN]
 rw [e2]
theorem zsc9 (n : Nd) (k : Nat) (h : k <= n.ks.length) : encN n k ++ rstN n (n.ks.length - k) = (n.ks.length : Int) :: rstN n n.ks.length:=by
 induction k with
 | zero => rfl
 | succ k ih =>
  rw [<- ih (by omega),zli9 n (show k < n.ks.length by omega)]
  simp only [encN,List.append_assoc]
theorem zsb9 (n : Nd) : encN n n.ks.length = (n.ks.length : Int) :: rstN n n.ks.length:=by
 have:=zsc9 n n.ks.length (zn6 _)
 rw [Nat.sub_self] at this
 simpa [rstN] using this
theorem zdg9 {α : Type} (d : α) (l : List α) (k : Nat) (h : k < l.length) : l.take (k + 1) = l.take k ++ [l.getD k d]:=by
 rw [List.take_succ_eq_append_getElem h]
 simp [zn3,h]
theorem pz_enc {n : Nd} (h : Rl n) (k : Nat) (hk : k <= n.ks.length) : pzN n.lf (rstN n n.ks.length,false) k = ⟨⟨n.lf,n.ks.take k,n.vs.take k,n.kd.take k⟩,(rstN n (n.ks.length - k),false)⟩:=by
 induction k with
 | zero => simp [pzN]
 | succ k ih =>
  have hl : k < n.ks.length:=by omega
  simp only [pzN]
  rw [ih (by omega)]
  unfold pzStep
  have hst:=zli9 n hl
  simp only
  rw [hst]
  have ek:=zdg9 eS n.ks k hl
  cases e : n.lf with
  | true =>
   have hv:=h.vs e
   have ev:=zdg9 eS n.vs k (by omega)
   have ed : n.kd = []:=List.eq_nil_of_length_eq_zero hv.2.1
   rw [if_pos rfl]
   unfold itm
   rw [if_pos e]
   simp only [List.cons_append,List.append_assoc]
   rw [zgn9]
   simp only
   rw [zgn9]
   rw [ek,ev,ed]
   simp [kA,vA]
  | false =>
   have hd:=h.kd e
   have ed:=zdg9 (0 : Int) n.kd k (by omega)
   have ev : n.vs = []:=List.eq_nil_of_length_eq_zero hd.2.1
   rw [if_neg (by decide)]
   unfold itm
   rw [if_neg (by rw [e]; decide)]
   simp only [List.cons_append,List.append_assoc,List.nil_append]
   rw [zgn9]
   simp only
   rw [zco9]
   simp only
   rw [zco9]
   have hr:=hd.2.2 k hl
   rw [ek,ed,ev]
   have : dA n k % 256 + dA n k / 256 * 256 = dA n k:=by omega
   simp only [this]
   simp [kA,dA]
theorem rd_enc {n : Nd} (h : Rl n) : rdN n.lf (encN n n.ks.length) = ⟨n,([],false)⟩:=by
 unfold rdN
 rw [zsb9,zco9]
 simp only [Int.toNat_natCast]
 rw [pz_enc h _ (zn6 _)]
 obtain ⟨lf,ks,vs,kd⟩:=n
 have hv:=h.vs
 have hd:=h.kd
 simp only [Nat.sub_self,rstN,List.take_length] at *
 cases lf with
 | true => rw [zn5 (by have:=(hv rfl).1; omega),zn5 (by have:=(hv rfl).2.1; omega)]
 | false => rw [zn5 (by have:=(hd rfl).2.1; omega),zn5 (by have:=(hd rfl).1; omega)]
theorem kdN_lf (lf : Bool) : decide (kdN lf = 1) = lf:=by cases lf <;> rfl
theorem zsi9 {n : Nd} (hm : mayN n = true) (h : Rl n) : getN (kdN n.lf) (encN n n.ks.length) = some n:=by
 unfold getN
 rw [if_pos (by cases n.lf <;> simp [kdN]),kdN_lf,rd_enc h]
 simp only
 rw [hm,if_pos (by simp [rdOk])]
theorem itm_by {n : Nd} (h : Rl n) {k : Nat} (hk : k < n.ks.length) : By (itm n k):=by
 have app : ∀ {a b : List Int},By a -> By b -> By (a ++ b):=fun {a b} ha hb i => by
  rw [zn3,List.getElem?_append]
  split
  ·rw [<- zn3]; exact ha i
  ·rw [<- zn3]; exact hb _
 have cons : ∀ {x : Int} {b : List Int},0 <= x -> x <= 255 -> By b -> By (x :: b):=fun {x b} h0 h1 hb i => by
  cases i with
  | zero => simp; omega
  | succ i => simp only [List.getD_cons_succ]; exact hb i
 have h1:=h.ks k hk
 unfold itm
 refine cons (by omega) (by omega) (app (bts_by _) ?_)
 cases e : n.lf with
 | true =>
  have:=(h.vs e).2.2 k hk
  rw [if_pos rfl]
  exact cons (by omega) (by omega) (bts_by _)
 | false =>
  have:=(h.kd e).2.2 k hk
  rw [if_neg (by decide)]
  exact cons (by omega) (by omega) (cons (by omega) (by omega) (fun i => by simp))
theorem enc_by {n : Nd} (h : Rl n) (k : Nat) (hk : k <= n.ks.length) : By (encN n k):=by
 induction k with
 | zero =>
  have:=h.len
  intro i
  cases i with
  | zero => simp [encN]; omega
  | succ i => simp [encN]
 | succ k ih =>
  have h1:=ih (by omega)
  have h2:=itm_by h (show k < n.ks.length by omega)
  intro i
  simp only [encN]
  rw [zn3,List.getElem?_append]
  split
  ·rw [<- zn3]; exact h1 i
  ·rw [<- zn3]; exact h2 _
end Go.Proofs.YtjhccpijpffahaaGreat
