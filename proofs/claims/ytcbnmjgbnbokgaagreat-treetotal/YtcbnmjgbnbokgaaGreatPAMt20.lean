import Derived.Test.YtcbnmjgbnbokgaaGreatPRow0
set_option maxRecDepth 100000
set_option linter.unusedVariables false
set_option linter.unusedSimpArgs false
set_option maxHeartbeats 8000000
namespace Go.Proofs.YtcbnmjgbnbokgaaGreat
open Go.RowKit Ah
theorem PmAt.after {w w' : World} {M : Nat} {s s' : St} {vs v v' u vb : Value} {ns ns' bk : List Int} (H : PmAt w M s vs v u vb ns bk) (P : Pf w' M s' vs v' u [vb,.int .i64 s.as] ns') (hv : ∀ k,v'.ownBlock = some k -> v.ownBlock = some k ∨ w.heap.size <= k)
  (ht : Tch (fun k => k = M ∨ vs.ownBlock = some k ∨ v.ownBlock = some k ∨ u.ownBlock = some k) w w') (hk : Ks 2 s' bk) (ok : Sok s') (ha : s'.as = s.as) : PmAt w' M s' vs v' u vb ns' bk:=by
 refine ⟨by rw [ha]; exact P,H.bo.tch ht (fun k hk e => ?_),hk,fun k hk e => ?_,H.a2,ok⟩
 ·rcases e with e | e | e | e
  ·exact H.neB hk e
  ·exact H.sb e hk
  ·exact H.a1 k hk e
  ·exact H.a2 k hk e
 ·rcases hv k e with e2 | e2
  ·exact H.a1 k hk e2
  ·have:=H.bo.lt k hk
   omega
theorem tch_P {w w' : World} {M : Nat} {vs v u vb : Value} (ht : Tch (fun k => k = M ∨ vs.ownBlock = some k ∨ v.ownBlock = some k ∨ u.ownBlock = some k) w w') : Tch (Px M vs v u vb) w w':=ht.mono (fun k _ e => by
 rcases e with e | e | e | e
 ·exact .inl e
 ·exact .inr (.inl e)
 ·exact .inr (.inr (.inl e))
 ·exact .inr (.inr (.inr (.inl e))))
theorem zos9 (M : Nat) (s : St) (X : Nat -> Prop) (n : Int) (w : World) (H : Pm w M s X) :
  Calls Tryz.prog 75 #[mp M,.int .i64 n] w fun e w' => e = .returned (.bool (back n s).1) /\ Pm w' M (back n s).2 (ext w w' X) /\ Tch X w w':=by
 obtain ⟨vs,v,u,vb,ns,bk,h,hx,hl⟩:=H
 have HH : Hid (PmAt w M s vs v u vb ns bk):=h
 have HX : Hid (∀ k,Px M vs v u vb k -> X k):=hx
 have HL : Hid (∀ k,X k -> k < w.heap.size):=hl
 obtain ⟨z,hz⟩:=exH (stv s n + 1)
 clear h hx hl
 by_cases h1 : stv s n = 1
 ·have ok:=zqi9 HH.out.ok n
  obtain ⟨i,hi,rfl,e⟩:=zcb9 (s:=s) (n:=n) (by omega)
  have e2 : back ((s.lo + i : Nat) : Int) s = (true,put s i 0):=by
   unfold back
   rw [if_neg (by omega),show (((s.lo + i : Nat) : Int) - s.lo).toNat = i by omega]
  rw [e2] at ok ⊢
  have HOK : Hid (Sok (put s i 0)):=ok
  have HI : Hid (i < s.L.length /\ G s.L i = 1):=⟨hi,by omega⟩
  have hz2 : (z != 2) = false:=by have:=hz.out; simp; omega
  obtain ⟨t,ht⟩:=exH (s.lo + i)
  rw [ht.out] at hz ⊢
  clear ok hi e e2 h1
  simp only
  go_enter Tryz.func75,Tryz.ntmps75
  go_wp2_with fail
  refine (zar9 M s vs v u _ ns t w HH.out.pf).mono ?_
  rintro e w1 ⟨rfl,rfl⟩
  rw [hz.out]
  go_wp2_with fail
  rw [<- ht.out]
  refine (zif9 M s vs v u _ ns i w1 HH.out.pf HI.out.1 (by rw [HI.out.2]; omega)).mono ?_
  rintro e w2 ⟨rfl,v2,ns2,hp2,hf2,ht2⟩
  have R : Hid (Pm w2 M (put s i 0) (ext w1 w2 X) /\ Tch X w1 w2):=
   Pm.made HX.out HL.out (HH.out.after hp2 hf2 ht2 (HH.out.kb.other HI.out.1 (by rw [HI.out.2]; omega) (by omega)) HOK.out rfl) hf2 (fun _ e => .inl e) (tch_P ht2)
  clear hp2 hf2 ht2
  go_wp2_with fail
  go_ret
  exact ⟨rfl,R.out⟩
 ·have e2 : back n s = (false,s):=by unfold back; rw [if_pos h1]
  rw [e2]
  have hz2 : (z != 2) = true:=by have:=hz.out; simp; omega
  clear h1 e2
  simp only
  go_enter Tryz.func75,Tryz.ntmps75
  go_wp2_with fail
  refine (zar9 M s vs v u _ ns n w HH.out.pf).mono ?_
  rintro e w1 ⟨rfl,rfl⟩
  rw [hz.out]
  go_wp2_with fail
  go_ret
  exact ⟨rfl,Pm.made HX.out HL.out HH.out (fun _ e => .inl e) (fun _ e => .inl e) (Tch.refl _ _)⟩
theorem zlf9 {w : World} {M : Nat} {post : List Value} {g m cap : Nat} {v u : Value} {Lp lo : Nat} {ns L : List Int} (F : Fr w ⟨M,110,[.slice (some ⟨g,0,none⟩) m cap],post⟩ v u Lp ns) (O : OwnsS w (.slice (some ⟨g,0,none⟩) m cap) (sts lo L)) (i : Nat) (y x : Int) (hx : x = y + 1) :
  Fr (w.setCell ⟨g,lo + i,none⟩ (.int .u8 x)) ⟨M,110,[.slice (some ⟨g,0,none⟩) m cap],post⟩ v u Lp ns /\ OwnsS (w.setCell ⟨g,lo + i,none⟩ (.int .u8 x)) (.slice (some ⟨g,0,none⟩) m cap) (sts lo (L.set i y)) /\ Tch (fun k => k = g) w (w.setCell ⟨g,lo + i,none⟩ (.int .u8 x)):=by
 subst hx
 have T : Tch (fun k => k = g) w (w.setCell ⟨g,lo + i,none⟩ (.int .u8 (y + 1))):=Tch.setCell (Tch.refl (fun k => k = g) w) (p:=⟨g,lo + i,none⟩) (fun _ => rfl) _
 have gM : g ≠ M:=zau9 O F.blk (show (110 : TypeId) ≠ 132 by decide) rfl
 obtain ⟨ps,_,ho,_⟩:=F.pls
 refine ⟨F.tch T (fun e => gM e.symm) (fun k hk e => zx9 O F.own (by decide) (k:=g) rfl (by rw [<- e]; exact hk)) (fun k hk e => zx9 O ho (by decide) (k:=g) rfl (by rw [<- e]; exact hk)),?_,T⟩
 rw [<- zon9]
 exact O.set (lo + i) (y + 1)
theorem zfq9 (S : Nat -> Prop) (w : World) (q : Nat) : Tch S w (w.drewN q):=⟨rfl,rfl,rfl,zn6 _,fun _ _ _ => rfl⟩
theorem PmAt.drew {w : World} {M : Nat} {s : St} {vs v u vb : Value} {ns bk : List Int} (H : PmAt w M s vs v u vb ns bk) (q : Nat) : PmAt (w.drewN q) M s vs v u vb ns bk:=H.tch (zfq9 (fun _ => False) w q) (fun _ _ e => e)
theorem ns_le {w : World} {M : Nat} {s : St} {vs v u : Value} {post : List Value} {ns : List Int} (H : Pf w M s vs v u post ns) : ns.length <= 65536:=by
 have h1:=H.ks.len
 have h2:=List.count_le_length (a:=(0 : Int)) (l:=s.L)
 have:=H.top
 omega
theorem zps9 (M : Nat) (s : St) (X : Nat -> Prop) (n : Int) (w : World) (H : Pm w M s X) :
  Calls Tryz.prog 31 #[mp M,.int .i64 n] w fun e w' => e = .returned (.bool (mrk n s).1) /\ Pm w' M (mrk n s).2 (ext w w' X) /\ Tch X w w':=by
 obtain ⟨vs,v,u,vb,ns,bk,h,hx,hl⟩:=H
 have HH : Hid (PmAt w M s vs v u vb ns bk):=h
 have HX : Hid (∀ k,Px M vs v u vb k -> X k):=hx
 have HL : Hid (∀ k,X k -> k < w.heap.size):=hl
 obtain ⟨z,hz⟩:=exH (stv s n + 1)
 by_cases h1 : stv s n = 0
 ·have hz2 : (z != 1) = false:=by have:=hz.out; simp; omega
  obtain ⟨f,hf⟩ : ∃ f : Nat,Hid (fre s = f):=⟨(fre s).toNat,by show _ = _; have:=h.ok.aside; unfold fre; omega⟩
  by_cases hf0 : f = 0
  ·have e2 : mrk n s = (false,s):=by unfold mrk; rw [if_pos (.inr (by rw [hf.out]; omega))]
   rw [e2]
   subst hf0
   clear h1 e2 h hx hl
   simp only
   go_enter Tryz.func31,Tryz.ntmps31
   go_wp2_with fail
   refine (zar9 M s vs v u _ ns n w HH.out.pf).mono ?_
   rintro e w1 ⟨rfl,rfl⟩
   rw [hz.out]
   go_wp2_with fail
   refine (zjp9 M s vs v u vb ns bk w1 HH.out).mono ?_
   rintro e w2 ⟨rfl,q,rfl⟩
   rw [hf.out]
   go_wp2_with fail
   go_ret
   exact ⟨rfl,Pm.made HX.out HL.out (HH.out.drew q) (fun _ e => .inl e) (fun _ e => .inl e) (zfq9 _ _ _)⟩
  ·have ok:=zrx9 h.ok n
   obtain ⟨i,hi,rfl,e⟩:=zcb9 (s:=s) (n:=n) (by omega)
   have e2 : mrk ((s.lo + i : Nat) : Int) s = (true,put s i 1):=by
    unfold mrk
    rw [if_neg (by rw [hf.out]; omega),show (((s.lo + i : Nat) : Int) - s.lo).toNat = i by omega]
   rw [e2] at ok ⊢
   have HOK : Hid (Sok (put s i 1)):=ok
   have HI : Hid (i < s.L.length /\ G s.L i = 0):=⟨hi,by omega⟩
   have hfz : ((f : Int) == 0) = false:=by simp; omega
   have hlen:=zbs9 s.lo s.L
   obtain ⟨g,cap,rfl,hg,hcap,hmax,hc,fz⟩:=h.pf.st.shape (by rw [hlen]; omega)
   obtain ⟨t,ht⟩:=exH (s.lo + i)
   obtain ⟨m,hm⟩:=exH ((sts s.lo s.L).length)
   have htm : t < m:=by rw [<- ht.out,<- hm.out,hlen]; omega
   have HMEM : Hid ((t : Int) ∈ ns):=by rw [<- ht.out]; exact (h.pf.ks.mem _).2 h1
   rw [ht.out] at hz ⊢
   rw [hm.out] at hcap HH HX
   unfold maxLen at hmax
   clear ok hi e e2 h1 h hx hl hc fz hlen
   simp only
   go_enter Tryz.func31,Tryz.ntmps31
   go_wp2_with fail
   refine (zar9 M s _ v u _ ns t w HH.out.pf).mono ?_
   rintro e w1 ⟨rfl,rfl⟩
   rw [hz.out]
   go_wp2_with fail
   refine (zjp9 M s _ v u vb ns bk w1 HH.out).mono ?_
   rintro e w2 ⟨rfl,q,rfl⟩
   rw [hf.out]
   have HH2 : Hid (PmAt (w1.drewN q) M s (.slice (some ⟨g,0,none⟩) m cap) v u vb ns bk):=HH.out.drew q
   go_wp2_with fail
   refine (zku9 ⟨M,110,[.slice (some ⟨g,0,none⟩) m cap],[vb,.int .i64 s.as]⟩ v u (s.lo + s.L.length) ns t (w1.drewN q) HH2.out.pf.fr HMEM.out (by have:=ns_le HH2.out.pf; omega) HH2.out.pf.heap).mono ?_
   rintro e w3 ⟨rfl,v3,qs,hp3,hh3,hq3,hv3,ht3⟩
   have O3 : OwnsS w3 (.slice (some ⟨g,0,none⟩) m cap) (sts s.lo s.L):=HH2.out.pf.st.tch ht3 (fun k hk e => by
    rcases e with e | e | e
    ·exact HH2.out.pf.neS hk e
    ·exact HH2.out.pf.sv hk e
    ·exact HH2.out.pf.su hk e)
   obtain ⟨g',cap',he,hg3,hcap3,_,hc3,fz3⟩:=O3.shape (by rw [hm.out]; omega)
   simp only [Value.slice.injEq,Option.some.injEq,Addr.mk.injEq,and_true] at he
   obtain ⟨rfl,_,rfl⟩:=he
   have ct:=hc3 t (by rw [hm.out]; exact htm)
   have ft:=fz3 t
   obtain ⟨y0,hy0⟩:=exH ((sts s.lo s.L).getD t 0)
   rw [hy0.out] at ct
   have c0 : w3.cell? ⟨M,0,none⟩ = some (.slice (some ⟨g,0,none⟩) m cap):=by rw [cell_of_row w3 M 0 _ _ (0,0) hp3.blk]; rfl
   have HS : Hid (Fr (w3.setCell ⟨g,t,none⟩ (.int .u8 2)) ⟨M,110,[.slice (some ⟨g,0,none⟩) m cap],[vb,.int .i64 s.as]⟩ v3 u (s.lo + s.L.length) qs /\ OwnsS (w3.setCell ⟨g,t,none⟩ (.int .u8 2)) (.slice (some ⟨g,0,none⟩) m cap) (sts s.lo (s.L.set i 1)) /\ Tch (fun k => k = g) w3 (w3.setCell ⟨g,t,none⟩ (.int .u8 2))):=by
    have:=zlf9 hp3 O3 i 1 2 rfl
    rw [ht.out] at this
    exact this
   have HT3 : Hid (Tch (Fs ⟨M,110,[.slice (some ⟨g,0,none⟩) m cap],[vb,.int .i64 s.as]⟩ v u) (w1.drewN q) w3):=ht3
   have HV3 : Hid (v3.ownBlock = v.ownBlock):=hv3
   have HQ3 : Hid (Heap qs qs.length /\ ns.Perm ((t : Int) :: qs)):=⟨hh3,hq3⟩
   clear hp3 hh3 hq3 hv3 ht3 O3 hg3 hcap3 hc3 fz3
   go_wp2_with fail
   go_ret
   obtain ⟨F4,O4,T4⟩:=HS.out
   have hq:=HQ3.out.2
   rw [<- ht.out] at hq
   have P4 : Pf (w3.setCell ⟨g,t,none⟩ (.int .u8 2)) M (put s i 1) (.slice (some ⟨g,0,none⟩) m cap) v3 u [vb,.int .i64 s.as] qs:=by
    refine ⟨?_,O4,HQ3.out.1,HH2.out.pf.ks.sub HI.out.1 HI.out.2 (by omega) hq,by simp only [put,List.length_set]; exact HH2.out.pf.top⟩
    simp only [put,List.length_set]; exact F4
   have T : Tch (fun k => k = M ∨ (Value.slice (some ⟨g,0,none⟩) m cap).ownBlock = some k ∨ v.ownBlock = some k ∨ u.ownBlock = some k) w1 (w3.setCell ⟨g,t,none⟩ (.int .u8 2)):=by
    refine (((zfq9 _ w1 q).trans HT3.out (fun k _ e => ?_)).trans T4 (fun k _ e => .inr (.inl (by rw [e]; rfl))))
    rcases e with e | e | e
    ·exact .inl e
    ·exact .inr (.inr (.inl e))
    ·exact .inr (.inr (.inr e))
   exact ⟨rfl,Pm.made HX.out HL.out (HH.out.after P4 (fun k hk => .inl (by rw [<- HV3.out]; exact hk)) T (HH.out.kb.other HI.out.1 (by rw [HI.out.2]; omega) (by omega)) HOK.out rfl) (fun k hk => .inl (by rw [<- HV3.out]; exact hk)) (fun _ e => .inl e) (tch_P T)⟩
 ·have e2 : mrk n s = (false,s):=by unfold mrk; rw [if_pos (.inl h1)]
  rw [e2]
  have hz2 : (z != 1) = true:=by have:=hz.out; simp; omega
  clear h1 e2 h hx hl
  simp only
  go_enter Tryz.func31,Tryz.ntmps31
  go_wp2_with fail
  refine (zar9 M s vs v u _ ns n w HH.out.pf).mono ?_
  rintro e w1 ⟨rfl,rfl⟩
  rw [hz.out]
  go_wp2_with fail
  go_ret
  exact ⟨rfl,Pm.made HX.out HL.out HH.out (fun _ e => .inl e) (fun _ e => .inl e) (Tch.refl _ _)⟩
theorem zpn9 {s : St} {ns : List Int} (k : Ks 0 s ns) (h : Heap ns ns.length) (h0 : s.L.count 0 ≠ 0) : G ns 0 = ((s.lo + s.L.idxOf 0 : Nat) : Int):=by
 obtain ⟨hl,hz,hf⟩:=first0 h0
 have hn : 0 < ns.length:=by rw [k.len]; omega
 obtain ⟨i,hi,e,h1⟩:=k.idx (Int.le_refl _) (G_mem hn)
 have hm : ((s.lo + s.L.idxOf 0 : Nat) : Int) ∈ ns:=(k.mem _).2 (by rw [stv_in hl]; exact hz)
 obtain ⟨j,hj,e2⟩:=mem_G hm
 have:=h.least j hj
 rw [e2,e] at this
 have : ¬ i < s.L.idxOf 0:=fun hlt => hf i hlt h1
 omega
theorem zqf9 (M : Nat) (s : St) (X : Nat -> Prop) (w : World) (H : Pm w M s X) :
  Calls Tryz.prog 145 #[mp M] w fun e w' => e = .returned (.tuple #[.int .i64 (take s).1,.bool (take s).2.1]) /\ Pm w' M (take s).2.2 (ext w w' X) /\ Tch X w w':=by
 obtain ⟨vs,v,u,vb,ns,bk,h,hx,hl⟩:=H
 have HH : Hid (PmAt w M s vs v u vb ns bk):=h
 have HX : Hid (∀ k,Px M vs v u vb k -> X k):=hx
 have HL : Hid (∀ k,X k -> k < w.heap.size):=hl
 obtain ⟨av,capv,hve⟩:=h.pf.fr.len
 have HC1 : Hid (w.cell? ⟨M,1,none⟩ = some (.slice av ns.length capv)):=by rw [<- hve]; exact h.pf.c1
 have hnl:=h.pf.ks.len
 clear hve
 by_cases h0 : s.L.count 0 = 0
 ·have e2 : take s = (0,false,s):=by unfold take; rw [if_pos h0]
  rw [e2]
  have HN : Hid (ns.length = 0):=by show _ = _; omega
  clear h0 e2 h hx hl hnl
  simp only
  rw [HN.out] at HC1
  go_enter Tryz.func145,Tryz.ntmps145
  go_wp2_with fail
  refine (zbi9 M 1 av 0 capv w HC1.out).mono ?_
  rintro e w1 ⟨rfl,rfl⟩
  go_wp2_with fail
  go_ret2
  exact ⟨rfl,Pm.made HX.out HL.out HH.out (fun _ e => .inl e) (fun _ e => .inl e) (Tch.refl _ _)⟩
 ·have ok:=zss9 h.ok
  have hli:=zpn9 h.pf.ks h.pf.heap h0
  obtain ⟨hi,hgz,_⟩:=first0 h0
  obtain ⟨i,hid⟩:=exH (s.L.idxOf 0)
  have e2 : take s = (((s.lo + i : Nat) : Int),true,⟨s.lo,s.L.set i 1,s.as - 1⟩):=by unfold take; rw [if_neg h0,hid.out]
  rw [e2] at ok ⊢
  rw [hid.out] at hli hi hgz
  have HOK : Hid (Sok ⟨s.lo,s.L.set i 1,s.as - 1⟩):=ok
  have HI : Hid (i < s.L.length /\ G s.L i = 0):=⟨hi,hgz⟩
  have hlen:=zbs9 s.lo s.L
  obtain ⟨g,cap,rfl,hg,hcap,hmax,hc,fz⟩:=h.pf.st.shape (by rw [hlen]; omega)
  obtain ⟨t,ht⟩:=exH (s.lo + i)
  obtain ⟨m,hm⟩:=exH ((sts s.lo s.L).length)
  have htm : t < m:=by rw [<- ht.out,<- hm.out,hlen]; omega
  have HLI : Hid (G ns 0 = t):=by rw [<- ht.out]; exact hli
  obtain ⟨mn,hmn⟩ : ∃ mn,ns.length = mn + 1:=⟨ns.length - 1,by omega⟩
  have HMN : Hid (ns.length = mn + 1):=hmn
  have h65:=ns_le h.pf
  rw [hmn] at HC1 h65
  rw [ht.out]
  rw [hm.out] at hcap HH HX
  have gM : g ≠ M:=h.pf.neS rfl
  obtain ⟨az,has⟩:=exH s.as
  have ha9 : az <= 65536:=by
   have h2:=List.count_le_length (a:=(0 : Int)) (l:=s.L)
   have:=h.pf.top
   have:=h.ok.aside
   have:=has.out
   omega
  unfold maxLen at hmax
  clear ok hi e2 h0 h hx hl hc fz hlen hli hgz hnl hmn
  simp only
  go_enter Tryz.func145,Tryz.ntmps145
  go_wp2_with fail
  refine (zbi9 M 1 av (mn + 1) capv w HC1.out).mono ?_
  rintro e w1 ⟨rfl,rfl⟩
  have hnz : (((mn + 1 : Nat) : Int) == 0) = false:=by simp; omega
  go_wp2_with fail
  refine (zfm9 ⟨M,110,[.slice (some ⟨g,0,none⟩) m cap],[vb,.int .i64 s.as]⟩ v u (s.lo + s.L.length) ns mn w1 HH.out.pf.fr HMN.out (by rw [HMN.out]; omega) HH.out.pf.heap).mono ?_
  rintro e w3 ⟨rfl,v3,qs,hp3,hh3,hq3,hv3,ht3⟩
  rw [HLI.out] at hq3 ⊢
  have O3 : OwnsS w3 (.slice (some ⟨g,0,none⟩) m cap) (sts s.lo s.L):=HH.out.pf.st.tch ht3 (fun k hk e => by
   rcases e with e | e | e
   ·exact HH.out.pf.neS hk e
   ·exact HH.out.pf.sv hk e
   ·exact HH.out.pf.su hk e)
  obtain ⟨g',cap',he,hg3,hcap3,_,hc3,fz3⟩:=O3.shape (by rw [hm.out]; omega)
  simp only [Value.slice.injEq,Option.some.injEq,Addr.mk.injEq,and_true] at he
  obtain ⟨rfl,_,rfl⟩:=he
  have ct:=hc3 t (by rw [hm.out]; exact htm)
  have ft:=fz3 t
  obtain ⟨y0,hy0⟩:=exH ((sts s.lo s.L).getD t 0)
  rw [hy0.out] at ct
  have c0 : w3.cell? ⟨M,0,none⟩ = some (.slice (some ⟨g,0,none⟩) m cap):=by rw [cell_of_row w3 M 0 _ _ (0,0) hp3.blk]; rfl
  have c4 : w3.cell? ⟨M,4,none⟩ = some (.int .i64 az):=by rw [cell_of_row w3 M 4 _ _ (0,0) hp3.blk,<- has.out]; rfl
  have f4 : w3.frozen? ⟨M,4,none⟩ = false:=hp3.fz 4
  have HS : Hid (Fr (w3.setCell ⟨g,t,none⟩ (.int .u8 2)) ⟨M,110,[.slice (some ⟨g,0,none⟩) m cap],[vb,.int .i64 s.as]⟩ v3 u (s.lo + s.L.length) qs /\ OwnsS (w3.setCell ⟨g,t,none⟩ (.int .u8 2)) (.slice (some ⟨g,0,none⟩) m cap) (sts s.lo (s.L.set i 1)) /\ Tch (fun k => k = g) w3 (w3.setCell ⟨g,t,none⟩ (.int .u8 2))):=by
   have:=zlf9 hp3 O3 i 1 2 rfl
   rw [ht.out] at this
   exact this
  have hq:=hq3
  rw [<- ht.out] at hq
  obtain ⟨W4,HW4⟩:=exH (w3.setCell ⟨g,t,none⟩ (.int .u8 2))
  have hW:=HW4.out
  rw [HW4.out] at HS
  obtain ⟨F4,O4,T4⟩:=HS.out
  have P4 : Pf W4 M ⟨s.lo,s.L.set i 1,s.as - 1⟩ (.slice (some ⟨g,0,none⟩) m cap) v3 u [vb,.int .i64 s.as] qs:=by
   refine ⟨?_,O4,hh3,(HH.out.pf.ks.sub HI.out.1 HI.out.2 (y:=1) (by omega) hq).aside _,by simp only [List.length_set]; exact HH.out.pf.top⟩
   simp only [List.length_set]; exact F4
  have T : Tch (fun k => k = M ∨ (Value.slice (some ⟨g,0,none⟩) m cap).ownBlock = some k ∨ v.ownBlock = some k ∨ u.ownBlock = some k) w1 W4:=by
   refine ((ht3.mono (fun k _ e => ?_)).trans T4 (fun k _ e => .inr (.inl (by rw [e]; rfl))))
   rcases e with e | e | e
   ·exact .inl e
   ·exact .inr (.inr (.inl e))
   ·exact .inr (.inr (.inr e))
  have HP4 : Hid (Pf W4 M ⟨s.lo,s.L.set i 1,s.as - 1⟩ (.slice (some ⟨g,0,none⟩) m cap) v3 u [vb,.int .i64 s.as] qs):=P4
  have HT : Hid (Tch (fun k => k = M ∨ (Value.slice (some ⟨g,0,none⟩) m cap).ownBlock = some k ∨ v.ownBlock = some k ∨ u.ownBlock = some k) w1 W4):=T
  have HV3 : Hid (v3.ownBlock = v.ownBlock):=hv3
  have HKB : Hid (Ks 2 ⟨s.lo,s.L.set i 1,s.as - 1⟩ bk):=(HH.out.kb.other HI.out.1 (by rw [HI.out.2]; omega) (y:=1) (by omega)).aside _
  have c4' : W4.cell? ⟨M,4,none⟩ = some (.int .i64 az):=by rw [T4.cell (p:=⟨M,4,none⟩) hp3.lt (fun e => gM e.symm)]; exact c4
  have f4' : W4.frozen? ⟨M,4,none⟩ = false:=by rw [T4.frozen (p:=⟨M,4,none⟩) hp3.lt (fun e => gM e.symm)]; exact f4
  have hbo : OwnsI W4 vb bk:=HH.out.bo.tch T (fun k hk e => by
   rcases e with e | e | e | e
   ·exact HH.out.neB hk e
   ·exact HH.out.sb e hk
   ·exact HH.out.a1 k hk e
   ·exact HH.out.a2 k hk e)
  have HBO : Hid (OwnsI W4 vb bk):=hbo
  have HA1 : Hid (∀ k,vb.ownBlock = some k -> v3.ownBlock ≠ some k):=fun k hk e => HH.out.a1 k hk (by rw [<- hv3]; exact e)
  clear hp3 hh3 hq3 hv3 ht3 O3 hg3 hcap3 hc3 fz3 HS F4 O4 T4 P4 T hbo hq c4 f4
  by_cases ha0 : az = 0
  ·subst ha0
   go_wp2_with fail
   go_ret2
   have P : PmAt W4 M ⟨s.lo,s.L.set i 1,s.as - 1⟩ (.slice (some ⟨g,0,none⟩) m cap) v3 u vb qs bk:=by
    refine ⟨?_,HBO.out,HKB.out,HA1.out,HH.out.a2,HOK.out⟩
    have:=HP4.out
    rw [has.out] at this ⊢
    exact this
   exact ⟨rfl,Pm.made HX.out HL.out P (fun k hk => .inl (by rw [<- HV3.out]; exact hk)) (fun _ e => .inl e) (tch_P HT.out)⟩
  ·have hap : (0 : Int) < (az : Int):=by omega
   have hw9 : (az : Int) - 1 = ((az - 1 : Nat) : Int):=by omega
   go_wp2_with fail
   go_ret2
   have e9 : (.int .i64 ((az - 1 : Nat) : Int) : Value) = .int .i64 ((s.as - 1 : Nat) : Int):=by rw [has.out]
   have T9 : Tch (fun k => k = M) W4 (W4.setCell ⟨M,4,none⟩ (.int .i64 ((az - 1 : Nat) : Int))):=Tch.setCell (Tch.refl (fun k => k = M) W4) (p:=⟨M,4,none⟩) (fun _ => rfl) _
   have P : PmAt (W4.setCell ⟨M,4,none⟩ (.int .i64 ((az - 1 : Nat) : Int))) M ⟨s.lo,s.L.set i 1,s.as - 1⟩ (.slice (some ⟨g,0,none⟩) m cap) v3 u vb qs bk:=by
    refine ⟨?_,HBO.out.tch T9 (fun k hk e => HH.out.neB hk e),HKB.out,HA1.out,HH.out.a2,HOK.out⟩
    have:=HP4.out.post 1 (.int .i64 ((az - 1 : Nat) : Int))
    rw [e9] at this ⊢
    exact this
   refine ⟨rfl,Pm.made HX.out HL.out P (fun k hk => .inl (by rw [<- HV3.out]; exact hk)) (fun _ e => .inl e) ?_⟩
   exact (tch_P HT.out).trans T9 (fun k _ e => .inl e)
end Go.Proofs.YtcbnmjgbnbokgaaGreat
