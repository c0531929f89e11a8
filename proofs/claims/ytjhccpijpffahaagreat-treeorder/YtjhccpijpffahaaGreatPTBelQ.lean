import Derived.Test.YtjhccpijpffahaaGreatPTBz
import Derived.Test.YtjhccpijpffahaaGreatPTRpl
set_option maxRecDepth 100000
set_option linter.unusedVariables false
set_option linter.unusedSimpArgs false
set_option maxHeartbeats 8000000
namespace Go.Proofs.YtjhccpijpffahaaGreat
open Go.RowKit Go.Maps Pl
section
variable {H : Nat -> Prop} {t cc d M N : Nat} {a : AS} {b : CB} {c : CH} {R : Nat -> Prop} {w0 : World}
def BelC (R : Nat -> Prop) (w0 : World) (t cc d M N : Nat) (b : CB) (D : CD) (KB f lv : Nat) : Prop:=
 ∀ (H : Nat -> Prop) (w : World) (a : AS) (c : CH) (x : Int),(Lit.int .i64 x).wf = true -> Gz H w t cc d M N a b c -> Stay R w0 w H -> c.tk.length + 2 * f <= KB -> c.gn.length + 2 * f <= KB -> c.lv <= 100 →
  Calls Tryz.prog 143 #[chp b,.int .i64 x,.int .i64 (lv : Int)] w fun e w' => BelT H w t cc d M N b (belowF D f a c x lv) e w' /\ BlOk c f (belowF D f a c x lv)
theorem zdj9 (D : CD) (hC : Clo R w0 b D) (hj0 : D.jn = false) (KB f lv : Nat) (hKB : KB <= 1000) (hlv : 1 <= lv /\ lv <= 17) (hrec : lv <= 16 -> BelC R w0 t cc d M N b D KB f (lv + 1)) : BelC R w0 t cc d M N b D KB (f + 1) lv:=by
 intro H w a c x hx G hS htk hgn hcl
 obtain ⟨g,caps,hfv,hen,hat⟩:=hC.fn
 obtain ⟨⟨er,n⟩,hlk⟩ : ∃ r,Hid (look a x lv = r):=⟨_,rfl⟩
 have HVK : Hid (er = 0 -> Vk n):=fun h => by
  have:=G.look (x:=x) (lv:=lv)
  rw [hlk.out] at this
  exact this h
 have HLV : Hid (er = 0 -> lv <= 16):=fun h => by
  have h2:=hlk.out
  unfold look at h2
  by_cases q : 16 < lv
  ·rw [if_pos q] at h2
   have h3 : (7 : Int) = er:=congrArg Prod.fst h2
   omega
  ·omega
 obtain ⟨RR,hRR⟩:=exH (belowF D (f + 1) a c x lv)
 rw [hRR.out]
 have HR0 : Hid (RR = if er ≠ 0 then ⟨er,[],a,c⟩ else if n.lf = true then ⟨0,piecesF (D.lf n),a,{ leaveF a c x with lv:=lv }⟩ else upF D n lv (belowF D f a (leaveF a c x) (dA n (plc n D.key n.ks.length)) (lv + 1))):=by
  show RR = _
  rw [<- hRR.out,belowF,hlk.out]
 have RDG:=znb9 x lv w G
 rw [hlk.out] at RDG
 have HRD:=hideN RDG
 have c0:=G.c0
 have HG:=hideN G
 have HGL:=hideN G.hl
 have HX:=hideN hx
 have HS:=hideN hS
 have HTK:=hideN htk
 have HGN:=hideN hgn
 have HCL:=hideN hcl
 have HC:=hideN hC
 have HFV:=hideN hfv
 have HEN:=hideN hen
 have HCT:=hideN hat
 have HREC:=hideN hrec
 obtain ⟨cb,hcb⟩:=exH b.cb
 unfold chp
 rw [hcb.out] at c0 ⊢
 clear G hx hS htk hgn hcl hC hfv hen hat hrec RDG
 go_enter Tryz.func143,Tryz.ntmps143
 go_wp2_with fail
 refine HRD.out.mono ?_
 rintro e W1 ⟨H1,v1,v2,v3,he,ho1,g1,t1,h1,ap1⟩
 have he' : e = .returned (.tuple #[nod n.lf v1 v2 v3,.int .i64 er]):=he
 have ho1 : Ow3 w.heap.size W1 n v1 v2 v3:=ho1
 subst he'
 clear he HRD c0
 obtain ⟨a1,c1,a2,c2,a3,c3,rfl,rfl,rfl,_,_,_,_⟩:=ho1.nn.out
 obtain ⟨L1,hL1⟩:=exH n.ks.length
 obtain ⟨L2,hL2⟩:=exH n.vs.length
 obtain ⟨L3,hL3⟩:=exH n.kd.length
 obtain ⟨lf,hlf⟩:=exH n.lf
 rw [hL1.out,hL2.out,hL3.out] at ho1 ap1
 rw [hL1.out,hL2.out,hL3.out,hlf.out]
 unfold nod
 obtain ⟨W2,hW2⟩:=exN (W1.alloc (.cells #[.bool false,.slice none 0 0,.slice none 0 0,.slice none 0 0] 93))
 have NB : Nb W2 93 W1.heap.size false (.slice none 0 0) (.slice none 0 0) (.slice none 0 0):=by rw [<- hW2]; exact nb_new _ _ _ _ _ _
 have b2 : Below W1.heap.size W1 W2:=by rw [<- hW2]; exact za9 _ _
 obtain ⟨W3,hW3⟩:=exN ((((W2.setCell ⟨W1.heap.size,0,none⟩ (.bool lf)).setCell ⟨W1.heap.size,1,none⟩ (.slice a1 L1 c1)).setCell ⟨W1.heap.size,2,none⟩ (.slice a2 L2 c2)).setCell ⟨W1.heap.size,3,none⟩ (.slice a3 L3 c3))
 have NC : Nb W3 93 W1.heap.size lf (.slice a1 L1 c1) (.slice a2 L2 c2) (.slice a3 L3 c3):=by rw [<- hW3]; exact NB.all _ _ _ _
 have t3 : Tch (fun y => y = W1.heap.size) W2 W3:=by rw [<- hW3]; exact zp9 _ _ _ _ _ _
 have t13 : Tch (fun _ => False) W1 W3:=(Tch.of_below b2).trans t3 (fun y hy e => by omega)
 have B3 : Bz H w t cc d M N b a c W3 H1 W1.heap.size n (.slice a1 L1 c1) (.slice a2 L2 c2) (.slice a3 L3 c3):=⟨g1.tch t13 (fun _ _ e => e),t1.trans t13 (fun _ _ e => e.elim),h1,by rw [hlf.out]; exact NC,by have:=t1.size; omega,fun e => by have:=g1.hl W1.heap.size e; omega,ho1.tch t13 (fun _ _ e => e),ap1⟩
 have HB3:=hideN B3
 have p0:=NB.c0
 have p1:=NB.c1
 have p2:=NB.c2
 have p3:=NB.c3
 have f0:=NB.fz 0
 have f1:=NB.fz 1
 have f2:=NB.fz 2
 have f3:=NB.fz 3
 clear NB b2 t3 t13 g1 t1 h1 ap1 ho1
 by_cases h0 : er = 0
 ·subst h0
  have HV:=hideN (HVK.out rfl)
  have HL16:=hideN (HLV.out rfl)
  have LV:=zkh9 x HX.out W3 B3.gz (by have:=HGN.out; omega)
  unfold chp at LV
  rw [hcb.out] at LV
  have HLE:=hideN LV
  clear LV B3 NC
  go_wp2_with fail
  refine HLE.out.mono ?_
  rintro e W4 ⟨rfl,g4⟩
  obtain ⟨H4,B4⟩:=HB3.out.moveTo g4
  have HB4:=hideN B4
  have N4 : Nb W4 93 W1.heap.size lf (.slice a1 L1 c1) (.slice a2 L2 c2) (.slice a3 L3 c3):=by rw [<- hlf.out]; exact B4.nb
  have k0:=N4.c0
  have k1:=N4.c1
  have k2:=N4.c2
  have k3:=N4.c3
  clear g4 HB3 HLE p0 p1 p2 p3 f0 f1 f2 f3 hW2 hW3
  cases lf
  ·clear HEN HCT
   have HIN:=hideN (HV.out.inner hlf.out)
   have HRU : Hid (RR = upF D n lv (belowF D f a (leaveF a c x) (dA n (plc n D.key n.ks.length)) (lv + 1))):=by
    show RR = _
    rw [HR0.out,if_neg (by simp),if_neg (by rw [hlf.out]; decide)]
   have hpos:=HV.out.pos
   have hplt:=plc_in hlf.out D.key n.ks.length hpos
   rw [hL1.out] at hpos hplt
   have h13 : L1 = L3:=by rw [<- hL1.out,<- hL3.out]; exact HIN.out.2.1.symm
   subst h13
   have hl240 : L1 <= 240:=by rw [<- hL1.out]; exact HV.out.len.1
   obtain ⟨p,hp⟩:=exH (plc n D.key L1)
   rw [hp.out] at hplt
   obtain ⟨kb,ko,rfl,ck4⟩:=B4.ow.nn.key (i:=p) (by rw [hL1.out]; exact hplt)
   obtain ⟨db,dof,rfl,dk4⟩:=B4.ow.nn.kid (i:=p) (by rw [hL3.out]; omega)
   obtain ⟨ky,hky⟩:=exH (kA n p)
   obtain ⟨kid,hkid⟩:=exH (dA n p)
   have HKR : Hid (0 <= kid /\ kid <= 65535):=by
    have:=HIN.out.1 p (by rw [hL3.out]; omega)
    rw [hkid.out] at this
    exact this
   obtain ⟨key,hkey⟩:=exH D.key
   have HBK : Hid (b.key = key):=by show _ = _; rw [HC.out.key,hkey.out]
   obtain ⟨r,hr⟩:=exH (belowF D f a (leaveF a c x) kid (lv + 1))
   have HRV : Hid (RR = upF D n lv r):=by
    show RR = _
    rw [HRU.out,hL1.out,hp.out,hkid.out,hr.out]
   have B4d:=B4.drew
   have e1 : W4.drew.cell? ⟨cb,1,none⟩ = some (.string key):=by rw [<- hcb.out,<- HBK.out]; exact B4d.gz.c1
   have N4d : Nb W4.drew 93 W1.heap.size false (.slice (some ⟨kb,ko,none⟩) L1 c1) (.slice a2 L2 c2) (.slice (some ⟨db,dof,none⟩) L1 c3):=by rw [<- hlf.out]; exact B4d.nb
   have hS : W4.drew.cell? ⟨cb,1,none⟩ = some (.string key) /\ Nb W4.drew 93 W1.heap.size false (.slice (some ⟨kb,ko,none⟩) L1 c1) (.slice a2 L2 c2) (.slice (some ⟨db,dof,none⟩) L1 c3):=⟨e1,N4d⟩
   have PL:=zcf9 n _ _ _ D.key W4.drew B4d.ow.nn HV.out.sm
   rw [hlf.out,hL1.out,hp.out,hkey.out] at PL
   have HPL:=hideN PL
   have HB4d:=hideN B4d
   clear B4 B4d N4 N4d e1 PL ck4 dk4 k0 k1 k2 k3 HB4
   have k0 : W4.cell? ⟨W1.heap.size,0,none⟩ = some (.bool false):=hS.2.c0
   go_wp2_with fail
   clear k0
   have mixed : Tryz.prog.follows .mixedOrders = true:=by kernel_rfl
   refine beginW (S:=fun w' => w'.cell? ⟨cb,1,none⟩ = some (.string key) /\ Nb w' 93 W1.heap.size false (.slice (some ⟨kb,ko,none⟩) L1 c1) (.slice a2 L2 c2) (.slice (some ⟨db,dof,none⟩) L1 c3)) (t:=6) mixed ?_
   refine tkW 0 (some 43) (.load 93 (.tmp 8)) (nod false (.slice (some ⟨kb,ko,none⟩) L1 c1) (.slice a2 L2 c2) (.slice (some ⟨db,dof,none⟩) L1 c3)) ?hy hS ?_
   case hy =>
    rintro o ho w' ⟨z1,z2⟩
    have q0:=z2.c0; have q1:=z2.c1; have q2:=z2.c2; have q3:=z2.c3
    unfold nod
    go_simp
   simp only [Act.put,qa,qb,qc]
   refine tkW 1 (some 44) (.move (.tmp 0)) (Value.pointer (some ⟨cb,0,none⟩)) (by rintro o ho w' ⟨z1,z2⟩; go_simp) hS ?_
   simp only [Act.put,qa,qb,qc]
   refine tkW 2 (some 45) (.nilCheck (.tmp 44)) (Value.pointer (some ⟨cb,0,none⟩)) (by rintro o ho w' ⟨z1,z2⟩; go_simp) hS ?_
   simp only [Act.put,qa,qb,qc]
   refine tkW 3 (some 46) (.fieldAddr 114 (.tmp 45) 1) (Value.pointer (some ⟨cb,1,none⟩)) (by rintro o ho w' ⟨z1,z2⟩; go_simp) hS ?_
   simp only [Act.put,qa,qb,qc]
   refine tkW 4 (some 47) (.load 9 (.tmp 46)) (Value.string key) (by rintro o ho w' ⟨z1,z2⟩; go_simp) hS ?_
   simp only [Act.put,qa,qb,qc]
   refine rdW 5 (some 48) (.call { callee:=.value (.func 42),args:=#[.tmp 43,.tmp 47],argTypes:=#[93,9] }) ?_
   rintro o K hd ho hg hK
   refine zf9 (enters_of Tryz.func42 (by kernel_rfl) rfl) ho (vs:=#[nod false (.slice (some ⟨kb,ko,none⟩) L1 c1) (.slice a2 L2 c2) (.slice (some ⟨db,dof,none⟩) L1 c3),.string key]) (by kernel_rfl) HPL.out ?_
   rintro e W5 ⟨rfl,b5⟩
   refine ⟨_,rfl,?_⟩
   rw [hd]
   have B5:=HB4d.out.below b5
   have hS5 : W5.cell? ⟨cb,1,none⟩ = some (.string key) /\ Nb W5 93 W1.heap.size false (.slice (some ⟨kb,ko,none⟩) L1 c1) (.slice a2 L2 c2) (.slice (some ⟨db,dof,none⟩) L1 c3):=⟨by rw [<- hcb.out,<- HBK.out]; exact B5.gz.c1,by rw [<- hlf.out]; exact B5.nb⟩
   refine hK _ _ (fun _ => hS5) ?_
   clear ho hd hg hK b5 HB4d hS
   simp only [Act.put,qa,qb,qc]
   refine rdW 6 (some 10) (.assign (.tmp 48)) ?_
   rintro o K hd ho hg hK
   refine stepY (v:=Value.int .i64 (p : Int)) ?hy ?_
   case hy => go_simp
   rw [hd]
   refine hK _ _ (fun e => absurd rfl e) ?_
   clear ho hd hg hK
   simp only [Act.put,qa,qb,qc]
   refine doneW (by kernel_rfl) ?_ _
   obtain ⟨_,_,eb,ek5⟩:=B5.ow.nn.kid (i:=p) (by rw [hL3.out]; omega)
   cases eb
   rw [hkid.out] at ek5
   have m3:=hS5.2.c3
   have i0 : (0 : Int) <= (p : Int):=by omega
   have i1 : (p : Int) < (L1 : Int):=by omega
   have wl1:=wk_nat (x:=(lv : Int) + 1) (t:=lv + 1) (by omega) (by omega)
   have wl2:=zad9 (x:=(lv : Int) + 1) (t:=lv + 1) (by omega) (by omega)
   have REC:=HREC.out HL16.out H4 W5 a (leaveF a c x) kid (by have:=HKR.out; exact zbb9 (by omega) (by omega)) B5.gz (HS.out.on B5.tc B5.hh) (by have:=HTK.out; rw [(zav9 a c x).2.1]; omega) (by have:=HGN.out; have:=(zav9 a c x).1; omega) (by rw [(zav9 a c x).2.2]; exact HCL.out)
   unfold chp at REC
   rw [hcb.out,hr.out] at REC
   have HRC:=hideN REC
   have HB5:=hideN B5
   have HLC:=hideN (zav9 a c x)
   clear REC B5 hS5
   go_wp2_with fail
   clear wl1 wl2
   refine HRC.out.mono ?_
   rintro e W6 ⟨⟨H6,Zp,v6,rfl,g6,t6,h6,p6,z6⟩,ok6⟩
   have B6:=HB5.out.move g6 t6 h6
   have HZ6 : Hid (∀ k,Zp k -> W5.heap.size <= k /\ ¬ H6 k /\ k < W6.heap.size):=fun k hk => ⟨(z6 k hk).1,(z6 k hk).2.2,(z6 k hk).2.1⟩
   have HOK6:=hideN ok6
   obtain ⟨pl2,va,rfl⟩:=p6.len
   obtain ⟨pl,hpl⟩:=exH r.ps.length
   rw [hpl.out] at p6 pl2 ⊢
   have HP6:=hideN p6
   obtain ⟨re,hre⟩:=exH r.e
   rw [hre.out]
   have HS65 : Hid (W5.heap.size <= W6.heap.size /\ w.heap.size <= W5.heap.size):=⟨t6.size,HB5.out.tc.size⟩
   have HB5' : Hid (W1.heap.size < W5.heap.size):=HB5.out.nb.lt
   have HU5:=hideN (HB5.out.ow.lt)
   clear g6 t6 h6 p6 z6 ok6 HRC m3 ek5
   by_cases hre0 : re = 0
   ·subst hre0
    obtain ⟨_,_,eb,ck6⟩:=B6.ow.nn.key (i:=p) (by rw [hL1.out]; exact hplt)
    cases eb
    rw [hky.out] at ck6
    have B6d:=B6.drew
    have cz6 : W6.drew.frozen? ⟨kb,ko + p,none⟩ = false:=B6d.ow.k.fz1 _
    have e16 : W6.drew.cell? ⟨cb,1,none⟩ = some (.string key):=by rw [<- hcb.out,<- HBK.out]; exact B6d.gz.c1
    have N6 : Nb W6.drew 93 W1.heap.size false (.slice (some ⟨kb,ko,none⟩) L1 c1) (.slice a2 L2 c2) (.slice (some ⟨db,dof,none⟩) L1 c3):=by rw [<- hlf.out]; exact B6d.nb
    have hS : (W6.drew.cell? ⟨cb,1,none⟩ = some (.string key) /\ W6.drew.cell? ⟨kb,ko + p,none⟩ = some (.string ky)) /\ Nb W6.drew 93 W1.heap.size false (.slice (some ⟨kb,ko,none⟩) L1 c1) (.slice a2 L2 c2) (.slice (some ⟨db,dof,none⟩) L1 c3):=⟨⟨e16,ck6⟩,N6⟩
    obtain ⟨km,hkm⟩:=exH (Go.Proofs.YtjhccpijpffahaaGreat.minS ky key)
    have HMN : Hid (∀ (W : World) ts ty,(Builtin.min_ ts ty #[.string ky,.string key]).run Tryz.prog W = .ok (.string km) W):=fun W ts ty => by rw [zqw9,hkm.out]
    obtain ⟨n1,hn1⟩:=exH (lowK n D.key)
    have HN1 : Hid (setK n p km = n1):=by
     show _ = _
     rw [<- hn1.out]
     unfold lowK
     rw [hL1.out,hp.out,hky.out,hkey.out,hkm.out]
    obtain ⟨W7,hW7⟩:=exN (W6.drew.setCell ⟨kb,ko + p,none⟩ (.string km))
    have B7:=B6d.key (i:=p) (by rw [hL1.out]; exact hplt) km
    rw [HN1.out,hW7] at B7
    have t7 : Tch (fun y => y = kb) W6.drew W7:=by rw [<- hW7]; exact tch_at _ _ _ _
    have HP7 : Hid (Ps Zp W7 (.slice va pl pl) r.ps):=by
     have hg : w.heap.size <= kb:=B6d.ow.k.ge kb rfl
     have hlt : kb < W5.heap.size:=HB5.out.ow.k.owns.lt kb rfl
     exact (HP6.out.below (Below.refl _ _).drew).tch t7 (fun j hj e => by have:=(HZ6.out j hj).1; omega)
    have hlf1 : Hid (n1.lf = false):=by show _ = _; rw [<- HN1.out]; exact hlf.out
    have HN1O:=hideN (zsz9 HV.out HC.out.ks)
    rw [hn1.out] at HN1O
    have hK1 : Hid (n1.ks.length = L1 /\ n1.vs.length = L2 /\ n1.kd.length = L1):=by
     show _ /\ _ /\ _
     rw [<- HN1.out]
     exact ⟨by rw [zgd9]; exact hL1.out,hL2.out,hL3.out⟩
    have hD1 : Hid (∀ i,i < n1.kd.length -> 0 <= dA n1 i /\ dA n1 i <= 65535):=fun i hi => by
     have:=HIN.out.1 i
     rw [<- HN1.out] at hi ⊢
     exact this hi
    have HB7:=hideN B7
    clear B6 B6d ck6 e16 N6 t7 HB5 HP6
    go_wp2_with fail
    refine beginW (S:=fun w' => (w'.cell? ⟨cb,1,none⟩ = some (.string key) /\ w'.cell? ⟨kb,ko + p,none⟩ = some (.string ky)) /\ Nb w' 93 W1.heap.size false (.slice (some ⟨kb,ko,none⟩) L1 c1) (.slice a2 L2 c2) (.slice (some ⟨db,dof,none⟩) L1 c3)) (t:=14) mixed ?_
    refine tkW 0 (some 64) (.fieldAddr 93 (.tmp 8) 1) (Value.pointer (some ⟨W1.heap.size,1,none⟩)) (by rintro o ho w' ⟨z1,z2⟩; go_simp) hS ?_
    simp only [Act.put,qa,qb,qc]
    refine tkW 1 (some 65) (.load 91 (.tmp 64)) (Value.slice (some ⟨kb,ko,none⟩) L1 c1) ?hy hS ?_
    case hy =>
     rintro o ho w' ⟨z1,z2⟩
     have q1:=z2.c1
     go_simp
    simp only [Act.put,qa,qb,qc]
    refine tkW 2 (some 66) (.move (.tmp 10)) (Value.int .i64 (p : Int)) (by rintro o ho w' ⟨z1,z2⟩; go_simp) hS ?_
    simp only [Act.put,qa,qb,qc]
    refine tkW 3 (some 67) (.fieldAddr 93 (.tmp 8) 1) (Value.pointer (some ⟨W1.heap.size,1,none⟩)) (by rintro o ho w' ⟨z1,z2⟩; go_simp) hS ?_
    simp only [Act.put,qa,qb,qc]
    refine tkW 4 (some 68) (.load 91 (.tmp 67)) (Value.slice (some ⟨kb,ko,none⟩) L1 c1) ?hy hS ?_
    case hy =>
     rintro o ho w' ⟨z1,z2⟩
     have q1:=z2.c1
     go_simp
    simp only [Act.put,qa,qb,qc]
    refine tkW 5 (some 69) (.move (.tmp 10)) (Value.int .i64 (p : Int)) (by rintro o ho w' ⟨z1,z2⟩; go_simp) hS ?_
    simp only [Act.put,qa,qb,qc]
    refine tkW 6 (some 70) (.indexAddr 91 (.tmp 68) (.tmp 69)) (Value.pointer (some ⟨kb,ko + p,none⟩)) (by rintro o ho w' ⟨z1,z2⟩; go_simp) hS ?_
    simp only [Act.put,qa,qb,qc]
    refine tkW 7 (some 71) (.load 9 (.tmp 70)) (Value.string ky) (by rintro o ho w' ⟨⟨z0,z1⟩,z2⟩; go_simp) hS ?_
    simp only [Act.put,qa,qb,qc]
    refine tkW 8 (some 72) (.move (.tmp 0)) (Value.pointer (some ⟨cb,0,none⟩)) (by rintro o ho w' ⟨z1,z2⟩; go_simp) hS ?_
    simp only [Act.put,qa,qb,qc]
    refine tkW 9 (some 73) (.nilCheck (.tmp 72)) (Value.pointer (some ⟨cb,0,none⟩)) (by rintro o ho w' ⟨z1,z2⟩; go_simp) hS ?_
    simp only [Act.put,qa,qb,qc]
    refine tkW 10 (some 74) (.fieldAddr 114 (.tmp 73) 1) (Value.pointer (some ⟨cb,1,none⟩)) (by rintro o ho w' ⟨z1,z2⟩; go_simp) hS ?_
    simp only [Act.put,qa,qb,qc]
    refine tkW 11 (some 75) (.load 9 (.tmp 74)) (Value.string key) (by rintro o ho w' ⟨⟨z0,z1⟩,z2⟩; go_simp) hS ?_
    simp only [Act.put,qa,qb,qc]
    refine tkW 12 (some 76) (.call { callee:=.builtin .min,args:=#[.tmp 71,.tmp 75],argTypes:=#[9,9] }) (Value.string km) ?hy hS ?_
    case hy =>
     rintro o ho w' ⟨z1,z2⟩
     have q:=HMN.out w'
     go_simp
    simp only [Act.put,qa,qb,qc]
    refine tkW 13 (some 77) (.indexAddr 91 (.tmp 65) (.tmp 66)) (Value.pointer (some ⟨kb,ko + p,none⟩)) (by rintro o ho w' ⟨z1,z2⟩; go_simp) hS ?_
    simp only [Act.put,qa,qb,qc]
    refine rdW 14 none (.store 9 (.tmp 77) (.tmp 76)) ?_
    rintro o K hd ho hg hK
    refine zns9 ho rfl rfl hS.1.2 cz6 ?_
    rw [hd,hW7]
    refine hK _ _ (fun e => absurd rfl e) ?_
    refine doneW (by kernel_rfl) ?_ _
    clear ho hd hg hK hS cz6
    simp only [Act.put]
    have HOK : Hid (∀ (i j : Nat) (ps : List Nd) (c' : CH),c'.tk.length <= r.c.tk.length -> c'.gn.length <= r.c.gn.length + 1 -> c'.lv <= 100 -> ps.length <= 2 -> (∀ q ∈ ps,Sm q) -> BlOk c (f + 1) (tailF r.a c' n1 i j ps)):=fun i j ps c' q1 q2 q3 q4 q5 => by
     have k1:=HOK6.out.tk
     have k2:=HOK6.out.gn
     have k3:=HLC.out
     rw [k3.2.1] at k1
     exact zly9 (by omega) (by omega) q3 q4 HN1O.out.1 HN1O.out.2 q5
    have HSP : Hid (∀ q ∈ r.ps,Sm q):=fun q hq => (HOK6.out.sz q hq).sm
    have HTK6 : Hid (r.c.tk.length <= KB /\ r.c.gn.length <= KB):=by
     have k1:=HOK6.out.tk
     have k2:=HOK6.out.gn
     have k3:=HLC.out
     rw [k3.2.1] at k1
     have:=HTK.out
     have:=HGN.out
     exact ⟨by omega,by omega⟩
    have N7 : Nb W7 93 W1.heap.size false (.slice (some ⟨kb,ko,none⟩) L1 c1) (.slice a2 L2 c2) (.slice (some ⟨db,dof,none⟩) L1 c3):=by rw [<- hlf1.out]; exact B7.nb
    have HWP : Hid (IntKind.i64.wrap ((p : Int) + 1) = ((p + 1 : Nat) : Int) /\ wrap64 ((p : Int) + 1) = ((p + 1 : Nat) : Int)):=⟨wk_nat (by omega) (by omega),zad9 (by omega) (by omega)⟩
    obtain ⟨jn,hjn⟩:=exH b.jn
    have HJD : Hid (D.jn = jn):=by show _ = _; rw [<- HC.out.jn]; exact hjn.out
    have e3 : W7.cell? ⟨cb,3,none⟩ = some (.bool jn):=by rw [<- hcb.out,<- hjn.out]; exact B7.gz.c3
    clear B7
    cases jn
    ·have BT:=HB7.out
     have RP:=zcy9 n1 (.slice (some ⟨kb,ko,none⟩) L1 c1) (.slice a2 L2 c2) (.slice (some ⟨db,dof,none⟩) L1 c3) (.slice va pl pl) p (p + 1) r.ps Zp W7 BT.gz (BT.ow.k.less (zn7 _)) BT.ow.v.rd (BT.ow.d.less (zn7 _)) BT.ap (fun k e => ⟨fun q => BT.ow.ap k q e,BT.ow.v.apart BT.ow.d (by decide) e⟩) (fun k e => BT.ow.lt k (.inr (.inl e))) HP7.out (fun k hk => (HZ6.out k hk).2.1) (by omega) (by rw [hK1.out.1]; omega) (by rw [hK1.out.2.2]; omega) (by rw [hK1.out.1,hK1.out.2.2]; omega) HSP.out (by have:=HTK6.out.1; omega)
     unfold chp nod at RP
     rw [hcb.out,hlf1.out] at RP
     obtain ⟨rr,hrr⟩:=exH (replaceF r.a r.c n1 p (p + 1) r.ps)
     rw [hrr.out] at RP
     have HRP:=hideN RP
     have HSZR : Hid (SzT rr.n):=by
      rw [<- hrr.out]
      exact zbv9 _ _ _ _ HN1O.out.1 HN1O.out.2 HSP.out HOK6.out.two
     have HRT : Hid (RR = tailF r.a r.c n1 p (p + 1) r.ps):=(by
      show RR = _
      rw [HRV.out,upF_no hre.out (by unfold jnP; rw [HJD.out]; rintro ⟨e,_⟩; cases e),hn1.out,hL1.out,hp.out])
     have HRR : Hid (RR = if rr.e ≠ 0 then ⟨rr.e,[],rr.a,rr.c⟩ else ⟨0,piecesF rr.n,rr.a,rr.c⟩):=by
      show RR = _
      rw [HRT.out]
      unfold tailF
      rw [hrr.out]
     have HOKT : Hid (BlOk c (f + 1) RR):=by
      show BlOk c (f + 1) RR
      rw [HRT.out]
      exact (HOK.out p (p + 1) r.ps r.c (zn6 _) (by omega) HOK6.out.lv HOK6.out.two HSP.out)
     have HN7:=hideN N7
     have kc0:=N7.c0
     have kc1:=N7.c1
     have kc2:=N7.c2
     have kc3:=N7.c3
     clear RP BT N7
     have wp1:=HWP.out.1
     have wp2:=HWP.out.2
     go_wp2_with fail
     clear wp1 wp2
     refine HRP.out.mono ?_
     rintro e W8 ⟨H8,x1,x2,x3,rfl,g8,t8,h8,n8,f8⟩
     have BT:=HB7.out
     obtain ⟨p1,q1,p2,q2,p3,q3,rfl,rfl,rfl,_,_,_,_⟩:=n8.out
     obtain ⟨M1,hM1⟩:=exH rr.n.ks.length
     obtain ⟨M2,hM2⟩:=exH rr.n.vs.length
     obtain ⟨M3,hM3⟩:=exH rr.n.kd.length
     obtain ⟨ml,hml⟩:=exH rr.n.lf
     obtain ⟨me,hme⟩:=exH rr.e
     rw [hM1.out,hM2.out,hM3.out] at n8 f8
     rw [hM1.out,hM2.out,hM3.out,hml.out,hme.out]
     unfold nod
     have N8 : Nb W8 93 W1.heap.size false (.slice (some ⟨kb,ko,none⟩) L1 c1) (.slice a2 L2 c2) (.slice (some ⟨db,dof,none⟩) L1 c3):=HN7.out.tch t8 (fun e => e.elim BT.bn (fun e => e.elim (fun e => BT.ne _ (.inl e) rfl) (fun e => BT.ne _ (.inr (.inr e)) rfl)))
     obtain ⟨W9,hW9⟩:=exN ((((W8.setCell ⟨W1.heap.size,0,none⟩ (.bool ml)).setCell ⟨W1.heap.size,1,none⟩ (.slice p1 M1 q1)).setCell ⟨W1.heap.size,2,none⟩ (.slice p2 M2 q2)).setCell ⟨W1.heap.size,3,none⟩ (.slice p3 M3 q3))
     have N9 : Nb W9 93 W1.heap.size ml (.slice p1 M1 q1) (.slice p2 M2 q2) (.slice p3 M3 q3):=by rw [<- hW9]; exact N8.all _ _ _ _
     have t9 : Tch (fun y => y = W1.heap.size) W8 W9:=by rw [<- hW9]; exact zp9 _ _ _ _ _ _
     have nbx8 : ¬ H8 W1.heap.size:=fun e => (h8 _ e).elim BT.bn (fun e => by have:=BT.nb.lt; omega)
     have g9:=g8.tch t9 (fun y hy e => nbx8 (e ▸ hy))
     have T9 : Tch H w W9:=(BT.tc.trans t8 (fun y hy e => by
      rcases e with e | e | e
      ·exact (BT.hh y e).elim id (fun e => by omega)
      ·have:=BT.ow.fr y (.inl e); omega
      ·have:=BT.ow.fr y (.inr (.inr e)); omega)).trans t9 (fun y hy e => by have:=BT.bg; omega)
     have hh9 : ∀ k,H8 k -> H k ∨ w.heap.size <= k:=fun k hk => (h8 k hk).elim (BT.hh k) (fun e => .inr (zn2 BT.tc.size e))
     have xlo : ∀ j,((Value.slice p1 M1 q1).ownBlock = some j ∨ (Value.slice p2 M2 q2).ownBlock = some j ∨ (Value.slice p3 M3 q3).ownBlock = some j) -> j ≠ W1.heap.size /\ w.heap.size <= j:=fun j hj => by
      rcases (f8 j hj).1 with e | e | e | e
      ·exact ⟨BT.ne j (.inl e),BT.ow.fr j (.inl e)⟩
      ·exact ⟨BT.ne j (.inr (.inl e)),BT.ow.fr j (.inr (.inl e))⟩
      ·exact ⟨BT.ne j (.inr (.inr e)),BT.ow.fr j (.inr (.inr e))⟩
      ·have q1:=BT.nb.lt
       have q2:=BT.tc.size
       exact ⟨by omega,by omega⟩
     have n9:=n8.tch t9 (fun y hy e => (xlo y (.inl hy)).1 e) (fun y hy e => (xlo y (.inr (.inl hy))).1 e) (fun y hy e => (xlo y (.inr (.inr hy))).1 e)
     have PCE:=zcs9 rr.n (.slice p1 M1 q1) (.slice p2 M2 q2) (.slice p3 M3 q3) (fun j => w.heap.size <= j /\ ¬ H8 j) W9 n9 HSZR.out.sm (fun j hj => ⟨(xlo j hj).2,(f8 j hj).2.1⟩) (fun j hj => zn1 (f8 j hj).2.2 t9.size)
     rw [hml.out] at PCE
     unfold nod at PCE
     have HPCE:=hideN PCE
     have HG9:=hideN g9
     have HT9:=hideN T9
     have HH9:=hideN hh9
     have yc0:=N8.c0
     have yc1:=N8.c1
     have yc2:=N8.c2
     have yc3:=N8.c3
     have yz0:=N8.fz 0
     have yz1:=N8.fz 1
     have yz2:=N8.fz 2
     have yz3:=N8.fz 3
     have zc0:=N9.c0
     have zc1:=N9.c1
     have zc2:=N9.c2
     have zc3:=N9.c3
     clear PCE BT n8 f8 t8 g8 h8 N8 N9 t9 nbx8 g9 T9 hh9 xlo n9 HRP kc0 kc1 kc2 kc3 HN7
     by_cases hme0 : me = 0
     ·subst hme0
      have HR2 : Hid (RR = ⟨0,piecesF rr.n,rr.a,rr.c⟩):=by
       show RR = _
       rw [HRR.out,if_neg (by rw [hme.out]; simp)]
      go_wp2_with fail
      refine HPCE.out.mono ?_
      rintro e WA ⟨vA',rfl,psA,bA⟩
      have HFIN : Hid (BelT H w t cc d M N b RR (.returned (.tuple #[vA',.int .i64 0])) WA /\ BlOk c (f + 1) RR):=by
       refine ⟨?_,HOKT.out⟩
       rw [HR2.out]
       refine ⟨H8,_,vA',rfl,HG9.out.below bA,HT9.out.trans (Tch.of_below (S:=H) bA) (fun _ _ e => e),HH9.out,psA,fun k hk => ?_⟩
       obtain ⟨hk1,hk2⟩:=hk
       rcases hk1 with ⟨q1,q2⟩ | q
       ·exact ⟨q1,hk2,q2⟩
       ·have:=HT9.out.size
        exact ⟨by omega,hk2,fun e => by have:=HG9.out.hl k e; omega⟩
      clear psA bA HPCE
      go_wp2_with fail
      go_ret2
      exact HFIN.out
     ·have df1 : (me == 0) = false:=by rw [beq_eq_false_iff_ne]; exact hme0
      have df2 : (me != 0) = true:=by rw [bne,df1]; rfl
      have HR2 : Hid (RR = ⟨me,[],rr.a,rr.c⟩):=by
       show RR = _
       rw [HRR.out,if_pos (by rw [hme.out]; exact hme0),hme.out]
      have HFIN : Hid (BelT H w t cc d M N b RR (.returned (.tuple #[.slice none 0 0,.int .i64 me])) W9 /\ BlOk c (f + 1) RR):=by
       refine ⟨?_,HOKT.out⟩
       rw [HR2.out]
       exact ⟨H8,fun _ => False,_,rfl,HG9.out,HT9.out,HH9.out,rfl,fun _ e => e.elim⟩
      clear hme0 HPCE
      go_wp2_with fail
      try rw [hW9]
      go_ret2
      exact HFIN.out
    ·exact absurd HJD.out (by rw [hj0]; decide)
   ·have de1 : (re == 0) = false:=by rw [beq_eq_false_iff_ne]; exact hre0
    have de2 : (re != 0) = true:=by rw [bne,de1]; rfl
    have HRR : Hid (RR = ⟨re,[],r.a,r.c⟩):=by
     show RR = _
     rw [HRV.out,ztw9 (by rw [hre.out]; exact hre0),hre.out]
    have HFIN : Hid (BelT H w t cc d M N b RR (.returned (.tuple #[.slice none 0 0,.int .i64 re])) W6 /\ BlOk c (f + 1) RR):=by
     show _ /\ _
     rw [HRR.out]
     have k1:=HOK6.out.tk
     have k2:=HOK6.out.gn
     have k3:=HLC.out
     rw [k3.2.1] at k1
     exact ⟨⟨H6,fun _ => False,_,rfl,B6.gz,B6.tc,B6.hh,rfl,fun _ e => e.elim⟩,zec9 (by omega) (by omega) HOK6.out.lv⟩
    clear hre0 B6
    go_wp2_with fail
    go_ret2
    exact HFIN.out
  ·have e4 : W4.cell? ⟨cb,4,none⟩ = some (.int .i64 ((leaveF a c x).lv : Int)):=by rw [<- hcb.out]; exact B4.gz.c4
   have e4f : W4.frozen? ⟨cb,4,none⟩ = false:=by rw [<- hcb.out]; exact B4.gz.fz 4
   obtain ⟨W5,hW5⟩:=exN (W4.setCell ⟨cb,4,none⟩ (.int .i64 (lv : Int)))
   obtain ⟨g5,t5⟩:=B4.gz.setLv lv
   rw [hcb.out,hW5] at g5 t5
   have B5:=(B4.move g5 t5 (fun _ e => .inl e)).drew
   have c2' : W5.drew.cell? ⟨cb,2,none⟩ = some (.func (.func g) #[] caps):=by rw [<- hcb.out,<- HFV.out]; exact B5.gz.c2
   have N5 : Nb W5.drew 93 W1.heap.size true (.slice a1 L1 c1) (.slice a2 L2 c2) (.slice a3 L3 c3):=by rw [<- hlf.out]; exact B5.nb
   have hS : W5.drew.cell? ⟨cb,2,none⟩ = some (.func (.func g) #[] caps) /\ Nb W5.drew 93 W1.heap.size true (.slice a1 L1 c1) (.slice a2 L2 c2) (.slice a3 L3 c3):=⟨c2',N5⟩
   have HRR : Hid (RR = ⟨0,piecesF (D.lf n),a,{ leaveF a c x with lv:=lv }⟩):=by
    show RR = _
    rw [HR0.out,if_neg (by simp),if_pos hlf.out]
   have HOK : Hid (BlOk c (f + 1) RR):=by
    show BlOk c (f + 1) RR
    rw [HRR.out]
    exact zlx9 HC.out HV.out hlf.out x hlv.2
   have HSTY:=hideN (HS.out.on B5.tc B5.hh)
   have hwl:=B5.tc.size
   have HAT:=hideN (HCT.out n _ _ _ W5.drew w.heap.size (fun k hk => (HSTY.out k hk).2.2) (fun k hk => (HS.out k hk).1) hwl B5.ow HV.out.sm (by have:=HV.out.len; omega) (HV.out.leaf hlf.out).1)
   rw [hlf.out] at HAT
   have HB5:=hideN B5
   have hSD:=HC.out.sz n HV.out.sz HV.out.len.1 (HV.out.leaf hlf.out).1
   have HST6 : Hid (∀ (W6 : World) (y1 y2 y3 : Value),Ow3 w.heap.size W6 (D.lf n) y1 y2 y3 -> Tch (fun k => (Value.slice a1 L1 c1).ownBlock = some k ∨ (Value.slice a2 L2 c2).ownBlock = some k) W5.drew W6 -> (∀ j,(y1.ownBlock = some j ∨ y2.ownBlock = some j ∨ y3.ownBlock = some j) -> ((Value.slice a1 L1 c1).ownBlock = some j ∨ (Value.slice a2 L2 c2).ownBlock = some j ∨ (Value.slice a3 L3 c3).ownBlock = some j) ∨ W5.drew.heap.size <= j) →
     (W6.cell? ⟨cb,2,none⟩ = some (.func (.func g) #[] caps) /\ Nb W6 93 W1.heap.size true (.slice a1 L1 c1) (.slice a2 L2 c2) (.slice a3 L3 c3)) ∧
     (Calls Tryz.prog 142 #[nod (D.lf n).lf y1 y2 y3] W6 fun e w' => ∃ v,e = .returned v /\ Ps (fun j => (w.heap.size <= j /\ ¬ H4 j ∨ W6.heap.size <= j) /\ j < w'.heap.size) w' v (piecesF (D.lf n)) /\ Below W6.heap.size W6 w') ∧
     (∀ (W7 : World) (v : Value),Ps (fun j => (w.heap.size <= j /\ ¬ H4 j ∨ W6.heap.size <= j) /\ j < W7.heap.size) W7 v (piecesF (D.lf n)) -> Below W6.heap.size W6 W7 -> BelT H w t cc d M N b RR (.returned (.tuple #[v,.int .i64 0])) W7 /\ BlOk c (f + 1) RR)):=by
    intro W6 y1 y2 y3 ow6 t6 f6
    have B5:=HB5.out
    have hcbH : H4 cb:=by rw [<- hcb.out]; exact B5.gz.hcb
    have t6' : Tch (fun k => (Value.slice a1 L1 c1).ownBlock = some k ∨ (Value.slice a2 L2 c2).ownBlock = some k ∨ (Value.slice a3 L3 c3).ownBlock = some k) W5.drew W6:=t6.mono (fun k _ e => e.elim .inl (fun e => .inr (.inl e)))
    have g6:=B5.gz.tch t6' (fun k hk e => B5.ap k e hk)
    have apy : ∀ j,(y1.ownBlock = some j ∨ y2.ownBlock = some j ∨ y3.ownBlock = some j) -> w.heap.size <= j /\ ¬ H4 j:=fun j hj => ⟨ow6.fr j hj,fun e => (f6 j hj).elim (fun q => B5.ap j q e) (fun q => by have:=B5.gz.hl j e; omega)⟩
    refine ⟨⟨?_,?_⟩,zcs9 (D.lf n) y1 y2 y3 _ W6 ow6.nn hSD.sm apy ow6.lt,fun W7 v ps7 b7 => ⟨?_,HOK.out⟩⟩
    ·rw [t6'.cell (p:=⟨cb,2,none⟩) (World.block_lt_of_cell? W5.drew ⟨cb,2,none⟩ c2') (fun e => B5.ap cb e hcbH)]; exact c2'
    ·exact N5.tch t6' (fun e => B5.ne W1.heap.size e rfl)
    ·rw [HRR.out]
     refine ⟨H4,_,v,rfl,g6.below b7,(B5.tc.trans t6' (fun y hy e => by have:=B5.ow.fr y e; omega)).trans (Tch.of_below (S:=H) b7) (fun _ _ e => e),B5.hh,ps7,fun k hk => ?_⟩
     obtain ⟨hk1,hk2⟩:=hk
     rcases hk1 with ⟨q1,q2⟩ | q
     ·exact ⟨q1,hk2,q2⟩
     ·have h65:=t6'.size
      exact ⟨by omega,hk2,fun e => by have:=B5.gz.hl k e; omega⟩
   clear B4 g5 t5 B5 c2' N5 hSD hwl N4
   go_wp2_with fail
   try rw [hW5]
   have mixed : Tryz.prog.follows .mixedOrders = true:=by kernel_rfl
   refine beginW (S:=fun w' => w'.cell? ⟨cb,2,none⟩ = some (.func (.func g) #[] caps) /\ Nb w' 93 W1.heap.size true (.slice a1 L1 c1) (.slice a2 L2 c2) (.slice a3 L3 c3)) (t:=8) mixed ?_
   refine tkW 0 (some 36) (.move (.tmp 0)) (Value.pointer (some ⟨cb,0,none⟩)) (by rintro o ho w' ⟨z1,z2⟩; go_simp) hS ?_
   simp only [Act.put,qa,qb,qc]
   refine tkW 1 (some 37) (.nilCheck (.tmp 36)) (Value.pointer (some ⟨cb,0,none⟩)) (by rintro o ho w' ⟨z1,z2⟩; go_simp) hS ?_
   simp only [Act.put,qa,qb,qc]
   refine tkW 2 (some 38) (.fieldAddr 114 (.tmp 37) 2) (Value.pointer (some ⟨cb,2,none⟩)) (by rintro o ho w' ⟨z1,z2⟩; go_simp) hS ?_
   simp only [Act.put,qa,qb,qc]
   refine tkW 3 (some 39) (.load 112 (.tmp 38)) (Value.func (.func g) #[] caps) (by rintro o ho w' ⟨z1,z2⟩; go_simp) hS ?_
   simp only [Act.put,qa,qb,qc]
   refine tkW 4 (some 40) (.load 93 (.tmp 8)) (nod true (.slice a1 L1 c1) (.slice a2 L2 c2) (.slice a3 L3 c3)) ?hy hS ?_
   case hy =>
    rintro o ho w' ⟨z1,z2⟩
    have q0:=z2.c0; have q1:=z2.c1; have q2:=z2.c2; have q3:=z2.c3
    unfold nod
    go_simp
   simp only [Act.put,qa,qb,qc]
   refine rdW 5 (some 41) (.call { callee:=.value (.tmp 39),args:=#[.tmp 40],argTypes:=#[93] }) ?_
   rintro o K hd ho hg hK
   refine zfr9 HEN.out ho (caps:=caps) (by rfl) (vs:=#[nod true (.slice a1 L1 c1) (.slice a2 L2 c2) (.slice a3 L3 c3)]) (by kernel_rfl) HAT.out ?_
   rintro e W6 ⟨y1,y2,y3,rfl,ow6,t6,f6⟩
   refine ⟨_,rfl,?_⟩
   rw [hd]
   obtain ⟨hS6,HP6⟩:=HST6.out W6 y1 y2 y3 ow6 t6 f6
   clear hS
   have hS:=hS6
   refine hK _ _ (fun _ => hS) ?_
   clear ho hd hg hK ow6 t6 f6
   simp only [Act.put,qa,qb,qc]
   refine rdW 6 (some 42) (.call { callee:=.value (.func 142),args:=#[.tmp 41],argTypes:=#[93] }) ?_
   rintro o K hd ho hg hK
   refine zf9 (enters_of Tryz.func142 (by kernel_rfl) rfl) ho (vs:=#[nod (D.lf n).lf y1 y2 y3]) (by kernel_rfl) HP6.1 ?_
   rintro e W7 ⟨v7,rfl,ps7,b7⟩
   refine ⟨_,rfl,?_⟩
   rw [hd]
   have hS7 : W7.cell? ⟨cb,2,none⟩ = some (.func (.func g) #[] caps) /\ Nb W7 93 W1.heap.size true (.slice a1 L1 c1) (.slice a2 L2 c2) (.slice a3 L3 c3):=⟨by rw [b7.cell (World.block_lt_of_cell? W6 ⟨cb,2,none⟩ hS.1)]; exact hS.1,hS.2.below b7⟩
   have HFIN:=hideN (HP6.2 W7 v7 ps7 b7)
   refine hK _ _ (fun _ => hS7) ?_
   clear ho hd hg hK HP6 hS hS6
   simp only [Act.put,qa,qb,qc]
   refine rdW 7 (some 6) (.assign (.tmp 42)) ?_
   rintro o K hd ho hg hK
   refine stepY (v:=v7) ?hy ?_
   case hy => go_simp
   rw [hd]
   refine hK _ _ (fun _ => hS7) ?_
   clear ho hd hg hK
   simp only [Act.put,qa,qb,qc]
   refine rdW 8 (some 7) (.assign (.const (.int .i64 0))) ?_
   rintro o K hd ho hg hK
   refine stepY (v:=Value.int .i64 0) ?hy ?_
   case hy => go_simp
   rw [hd]
   refine hK _ _ (fun e => absurd rfl e) ?_
   clear ho hd hg hK
   simp only [Act.put,qa,qb,qc]
   refine doneW (by kernel_rfl) ?_ _
   clear hS7
   go_wp2_with fail
   go_ret2
   exact HFIN.out
 ·have de1 : (er == 0) = false:=by rw [beq_eq_false_iff_ne]; exact h0
  have de2 : (er != 0) = true:=by rw [bne,de1]; rfl
  have HRR : Hid (RR = ⟨er,[],a,c⟩):=by
   show RR = _
   rw [HR0.out,if_pos h0]
  have HFIN : Hid (BelT H w t cc d M N b RR (.returned (.tuple #[.slice none 0 0,.int .i64 er])) W3 /\ BlOk c (f + 1) RR):=by
   show _ /\ _
   rw [HRR.out]
   exact ⟨⟨H1,fun _ => False,_,rfl,B3.gz,B3.tc,B3.hh,rfl,fun _ e => e.elim⟩,zec9 (by omega) (by omega) HCL.out⟩
  clear h0 B3 NC HEN HCT
  go_wp2_with fail
  try rw [hW3]
  go_ret2
  exact HFIN.out
end
section
variable {H : Nat -> Prop} {t cc d M N : Nat} {a : AS} {b : CB} {c : CH} {R : Nat -> Prop} {w0 : World}
theorem zmr9 (a : AS) (x : Int) : look a x 17 = (7,noneN):=rfl
theorem zig9 (D : CD) (a : AS) (c : CH) (x : Int) : belowF D 1 a c x 17 = belowF D 0 a c x 17:=by
 rw [belowF,belowF,zmr9]
 rfl
theorem zez9 (D : CD) (hC : Clo R w0 b D) (hj0 : D.jn = false) (K : Nat) (hK : K <= 500) : ∀ (f lv : Nat),f + lv = 17 -> 1 <= lv -> BelC R w0 t cc d M N b D K f lv
 | 0,lv,h,h1 => by
  obtain rfl : lv = 17:=by omega
  intro H w a c x hx G hS htk hgn hcl
  have h2:=zdj9 (t:=t) (cc:=cc) (d:=d) (M:=M) (N:=N) D hC hj0 (K + 2) 0 17 (by omega) ⟨by omega,by omega⟩ (fun e => by omega)
  refine (h2 H w a c x hx G hS (by omega) (by omega) hcl).mono ?_
  rintro e w' ⟨h3,h4⟩
  rw [zig9] at h3 h4
  refine ⟨h3,?_⟩
  rw [belowF]
  exact zec9 (by omega) (by omega) hcl
 | f + 1,lv,h,h1 => zdj9 D hC hj0 K f lv (by omega) ⟨h1,by omega⟩ (fun _ => zez9 D hC hj0 K hK f (lv + 1) (by omega) (by omega))
theorem zte9 (B : Nat) (w : World) : Ow3 B w leaf0 (.slice none 0 0) (.slice none 0 0) (.slice none 0 0):=⟨zak9 _ _ _,zak9 _ _ _,zak9 _ _ _,fun j e => by cases e⟩
theorem zlk9 : SzT leaf0:=sz_of (by simp [leaf0]) (by simp [leaf0]) (by simp [leaf0]) (by simp [leaf0]) (by simp [leaf0])
theorem zkp9 (D : CD) (hC : Clo R w0 b D) (hj0 : D.jn = false) (x : Int) (hx : (Lit.int .i64 x).wf = true) (w : World) (G : Gz H w t cc d M N a b c) (hS : Stay R w0 w H) (hc : c = ch0) :
  Calls Tryz.prog 113 #[chp b,.int .i64 x] w fun e w' => BelT H w t cc d M N b (partsF D a c x) e w' /\ BlOk c 16 (partsF D a c x):=by
 subst hc
 obtain ⟨g,caps,hfv,hen,hat⟩:=hC.fn
 by_cases hx0 : x = 0
 ·subst hx0
  have HR : Hid (partsF D a ch0 0 = ⟨0,piecesF (D.lf leaf0),a,ch0⟩):=if_pos rfl
  have hsz:=hC.sz leaf0 zlk9 (by decide) rfl
  have HOK : Hid (BlOk ch0 16 (partsF D a ch0 0)):=by
   show BlOk _ _ _
   rw [HR.out]
   exact ⟨zer9 hsz,by simp,by simp,zct9 _,by simp [ch0]⟩
  have c2 : w.cell? ⟨b.cb,2,none⟩ = some (.func (.func g) #[] caps):=by rw [<- hfv]; exact G.c2
  have HAT:=hideN (hat leaf0 _ _ _ w w.heap.size (fun k hk => (hS k hk).2.2) (fun k hk => (hS k hk).1) (zn6 _) (zte9 _ _) zlk9.sm (by decide) rfl)
  have HPC : Hid (∀ (W : World) (y1 y2 y3 : Value),Ow3 w.heap.size W (D.lf leaf0) y1 y2 y3 -> Calls Tryz.prog 142 #[nod (D.lf leaf0).lf y1 y2 y3] W fun e w' => ∃ v,e = .returned v /\ Ps (fun j => (w.heap.size <= j ∨ W.heap.size <= j) /\ j < w'.heap.size) w' v (piecesF (D.lf leaf0)) /\ Below W.heap.size W w'):=fun W y1 y2 y3 h => zcs9 _ y1 y2 y3 (fun j => w.heap.size <= j) W h.nn hsz.sm (fun j hj => h.fr j hj) h.lt
  have HEN:=hideN hen
  have HG:=hideN G
  obtain ⟨cb,hcb⟩:=exH b.cb
  unfold chp
  rw [hcb.out] at c2 ⊢
  clear hC hj0 hfv hen hat G hS hsz hx
  go_enter Tryz.func113,Tryz.ntmps113
  go_wp2_with fail
  rw [HEN.out]
  refine HAT.out.mono ?_
  rintro e W1 ⟨y1,y2,y3,rfl,ow1,t1,f1⟩
  have t1' : Tch (fun _ => False) w W1:=t1.mono (fun k _ e => by rcases e with e | e <;> cases e)
  have HPC1:=hideN (HPC.out W1 y1 y2 y3 ow1)
  have HG1:=hideN (HG.out.tch t1' (fun _ _ e => e))
  have HT1:=hideN t1'
  have HHL:=hideN HG.out.hl
  clear ow1 t1 f1 t1' HPC c2
  go_wp2_with fail
  refine HPC1.out.mono ?_
  rintro e W2 ⟨v2,rfl,ps2,b2⟩
  have HFIN : Hid (BelT H w t cc d M N b (partsF D a ch0 0) (.returned (.tuple #[v2,.int .i64 0])) W2 /\ BlOk ch0 16 (partsF D a ch0 0)):=by
   refine ⟨?_,HOK.out⟩
   rw [HR.out]
   refine ⟨H,_,v2,rfl,HG1.out.below b2,(HT1.out.mono (fun _ _ e => e.elim)).trans (Tch.of_below (S:=H) b2) (fun _ _ e => e),fun k e => .inl e,ps2,fun k hk => ?_⟩
   have h1 : w.heap.size <= k:=hk.1.elim id (fun e => zn2 HT1.out.size e)
   exact ⟨h1,hk.2,fun e => by have:=HHL.out k e; omega⟩
  clear ps2 b2 HPC1
  go_wp2_with fail
  go_ret2
  exact HFIN.out
 ·have HR : Hid (partsF D a ch0 x = belowF D 16 a ch0 x 1):=if_neg hx0
  have BL:=zez9 (t:=t) (cc:=cc) (d:=d) (M:=M) (N:=N) D hC hj0 200 (by omega) 16 1 rfl (zn6 _) H w a ch0 x hx G hS (by simp [ch0]) (by simp [ch0]) (by simp [ch0])
  rw [HR.out]
  obtain ⟨r,hr⟩:=exH (belowF D 16 a ch0 x 1)
  rw [hr.out] at BL ⊢
  have de1 : (x == 0) = false:=by rw [beq_eq_false_iff_ne]; exact hx0
  have de2 : decide (x = 0) = false:=by rw [zn4]; exact hx0
  rw [show ((1 : Nat) : Int) = 1 from rfl] at BL
  obtain ⟨cb,hcb⟩:=exH b.cb
  unfold chp at BL ⊢
  rw [hcb.out] at BL ⊢
  have HBL:=hideN BL
  clear hC hj0 hfv hen hat G hS hx hx0 BL
  go_enter Tryz.func113,Tryz.ntmps113
  go_wp2_with fail
  refine HBL.out.mono ?_
  rintro e W1 ⟨⟨H1,Z,v,rfl,h1⟩,h2⟩
  have HF:=hideN h1
  have HF2:=hideN h2
  clear h1 h2
  go_wp2_with fail
  go_ret2
  exact ⟨⟨H1,Z,v,rfl,HF.out⟩,HF2.out⟩
theorem ztr9 : SzT top0:=sz_of (fun s hs => by rw [List.mem_singleton.1 hs]; exact zn7 _) (by simp [top0]) (by simp [top0]) (by simp [top0]) (by simp [top0])
theorem zir9 (D : CD) (a : AS) (c : CH) (x : Int) : (rootedF D a c x).c.tk.length <= (partsF D a c x).c.tk.length + (partsF D a c x).ps.length + 1 /\ (rootedF D a c x).c.gn = (partsF D a c x).c.gn:=by
 unfold rootedF
 simp only
 split
 ·exact ⟨by simp only; omega,rfl⟩
 ·split
  ·exact ⟨by simp only; omega,rfl⟩
  ·split
   ·split
    ·exact ⟨by simp only; omega,rfl⟩
    ·have:=zcl9 (partsF D a c x).a (partsF D a c x).c ((partsF D a c x).ps.getD 0 noneN)
     exact ⟨by omega,this.2.1⟩
   ·have h1:=zbj9 (partsF D a c x).a (partsF D a c x).c top0 0 1 (partsF D a c x).ps
    unfold raiseF
    split
    ·exact ⟨by simp only; omega,rfl⟩
    ·split
     ·exact ⟨by simp only; omega,h1.2.1⟩
     ·have h2:=zcl9 (replaceF (partsF D a c x).a (partsF D a c x).c top0 0 1 (partsF D a c x).ps).a (replaceF (partsF D a c x).a (partsF D a c x).c top0 0 1 (partsF D a c x).ps).c (replaceF (partsF D a c x).a (partsF D a c x).c top0 0 1 (partsF D a c x).ps).n
      exact ⟨by omega,h2.2.1.trans h1.2.1⟩
theorem zms9 (D : CD) (hC : Clo R w0 b D) (hj0 : D.jn = false) (x : Int) (hx : (Lit.int .i64 x).wf = true) (w : World) (G : Gz H w t cc d M N a b ch0) (hS : Stay R w0 w H) :
  Calls Tryz.prog 53 #[chp b,.int .i64 x] w fun e w' => e = .returned (.tuple #[.int .i64 (madeF D a x).x,.int .i64 (madeF D a x).e]) /\ TzTo H w w' t cc d M N (madeF D a x).a:=by
 have hP:=zkp9 D hC hj0 x hx w G hS rfl
 refine zqg9 D x w (BlOk ch0 16 (partsF D a ch0 x)) (zkv9 D x w _ hP (fun h => ?_)) (fun h => ?_)
 ·have h1:=zbj9 (partsF D a ch0 x).a (partsF D a ch0 x).c top0 0 1 (partsF D a ch0 x).ps
  have h2:=h.tk
  have h3:=h.two
  have h4 : (ch0.tk).length = 0:=rfl
  exact ⟨fun p hp => (h.sz p hp).sm,by omega,by have:=h.lv; omega,by omega,(zbv9 _ _ 0 1 ztr9.sm ⟨by simp [top0],by simp [top0],by simp [top0]⟩ (fun p hp => (h.sz p hp).sm) h.two).sm⟩
 ·have h2:=h.tk
  have h3:=h.two
  have h4 : (ch0.tk).length = 0:=rfl
  have h5 : (ch0.gn).length = 0:=rfl
  have h6:=h.gn
  have hc:=zir9 D a ch0 x
  rw [hc.2]
  omega
end
end Go.Proofs.YtjhccpijpffahaaGreat
