import Derived.Test.YtcbnmjgbnbokgaaGreatPTBz
import Derived.Laws.EntriesVeiled
set_option maxRecDepth 100000
set_option linter.unusedVariables false
set_option linter.unusedSimpArgs false
set_option maxHeartbeats 8000000
namespace Go.Proofs.YtcbnmjgbnbokgaaGreat
open Go.RowKit Go.Maps Pl
structure IGt (key : ByteArray) (t wb kb vb fb : Nat) (m : Option Nat) (E : Nat -> Prop) (s : ByteArray × Bool) (w : World) : Prop where
 bx : w.heap[wb]? = some (.cells #[tp t,.func (.func 41) #[] #[.pointer (some ⟨kb,0,none⟩),.pointer (some ⟨vb,0,none⟩),.pointer (some ⟨fb,0,none⟩)],.bool false,.map m] 89 (0,0))
 k : C1 w 9 kb (.string key)
 v : C1 w 9 vb (.string s.1)
 f : C1 w 4 fb (.bool s.2)
 e : ∀ y,E y ↔ (y = wb ∨ y = kb ∨ y = vb ∨ y = fb)
section
variable {key : ByteArray} {t wb kb vb fb : Nat} {m : Option Nat} {E : Nat -> Prop} {s : ByteArray × Bool} {w w' : World}
theorem IGt.tch (h : IGt key t wb kb vb fb m E s w) {S : Nat -> Prop} (ht : Tch S w w') (hn : ∀ k,E k -> ¬ S k) : IGt key t wb kb vb fb m E s w':=
 ⟨by rw [ht.block wb (Array.getElem?_eq_some_iff.1 h.bx).1 (hn wb ((h.e _).2 (.inl rfl)))]; exact h.bx,h.k.tch ht (hn kb ((h.e _).2 (.inr (.inl rfl)))),h.v.tch ht (hn vb ((h.e _).2 (.inr (.inr (.inl rfl))))),h.f.tch ht (hn fb ((h.e _).2 (.inr (.inr (.inr rfl))))),h.e⟩
theorem IGt.lt (h : IGt key t wb kb vb fb m E s w) : ∀ k,E k -> k < w.heap.size:=fun k hk => by
 rcases (h.e k).1 hk with e | e | e | e
 ·rw [e]; exact (Array.getElem?_eq_some_iff.1 h.bx).1
 ·rw [e]; exact h.k.lt
 ·rw [e]; exact h.v.lt
 ·rw [e]; exact h.f.lt
theorem znv9 (key : ByteArray) (s : ByteArray × Bool) (x : Int) (n : Nd) (hv : Vk n) : (∀ k ∈ ((getW key).st s x n).2,0 <= k /\ k <= 65535) /\ ((getW key).st s x n).2.length <= 240:=by
 cases hl : n.lf with
 | true => simp [getW,hl]
 | false =>
  have h1:=hv.inner hl
  have h2:=plc_in hl key n.ks.length hv.pos
  have h3:=h1.1 (plc n key n.ks.length) (by omega)
  simp only [getW,hl,Bool.false_eq_true,if_false]
  exact ⟨fun k hk => by rw [List.mem_singleton.1 hk]; exact h3,by simp⟩
theorem getOk (sb : Nat) (h1 : kb ≠ wb) (h2 : vb ≠ wb) (h3 : fb ≠ wb) (h4 : kb ≠ vb) (h5 : kb ≠ fb) (h6 : vb ≠ fb) : WOk (getW key) t wb sb (fun _ => 0) (IGt key t wb kb vb fb (some sb)) where
 tch:=fun E s w w' S h ht hn => h.tch ht hn
 lt:=fun E s w h => h.lt
 kd:=fun s x n hv => (znv9 key s x n hv).1
 ln:=fun s x n hv => (znv9 key s x n hv).2
 ct:=fun s x n hv => zn7 _
 fn:=⟨_,_,enters_of Tryz.func41 (by kernel_rfl) rfl,fun E s w h => ⟨h.bx,(h.e _).2 (.inl rfl)⟩,fun E s x n u1 u2 u3 w h hn hv ha hx hc => by
  refine (zpe9 n u1 u2 u3 x key kb vb fb s w hn hv h.k h.v h.f h6).mono ?_
  rintro e w' ⟨v,rfl,q1,q2,q3,q4,q5⟩
  have t3 : Tch E w w':=q3.mono (fun k _ e => (h.e k).2 (e.elim (fun e => .inr (.inr (.inl e))) (fun e => .inr (.inr (.inr e)))))
  refine ⟨E,v,rfl,⟨?_,h.k.tch q3 (fun e => e.elim h4 h5),q1,q2,h.e⟩,t3,fun k hk => .inl hk,q4,q5⟩
  rw [q3.block wb (Array.getElem?_eq_some_iff.1 h.bx).1 (fun e => e.elim (fun e => h2 e.symm) (fun e => h3 e.symm))]; exact h.bx⟩
end
theorem zcr9 {U : Nat -> Prop} {t cc d M N : Nat} {a : AS} (x : Int) (hx : 0 <= x /\ x <= 65535) (key : ByteArray) (w : World) (h : Tz U w t cc d M N a) :
  Calls Tryz.prog 12 #[tp t,.int .i64 x,.string key] w fun e w' => e = .returned (.tuple #[.string (getF a x key).s.1,.bool (getF a x key).s.2,.int .i64 (getF a x key).e]) /\ TzTo U w w' t cc d M N a:=by
 have hmf : ∀ (fn : Fn) (first cap : Array Value) (w : World),(Instr.makeFunc fn first cap).run Tryz.prog w = .ok (.func fn first cap) w:=fun _ _ _ _ => rfl
 obtain ⟨W1,hW1⟩:=exN (w.alloc (.cells #[.string key] 9))
 have k1 : C1 W1 9 w.heap.size (.string key):=by rw [<- hW1]; exact C1.new _ _ _
 have b1 : Below w.heap.size w W1:=by rw [<- hW1]; exact za9 _ _
 have s1 : W1.heap.size = w.heap.size + 1:=by rw [<- hW1]; simp
 obtain ⟨W2,hW2⟩:=exN (W1.alloc (.cells #[.string ⟨#[]⟩] 9))
 obtain ⟨W3,hW3⟩:=exN (W2.alloc (.cells #[.bool false] 4))
 obtain ⟨W4,hW4⟩:=exN (W3.alloc (.cells #[.pointer (some ⟨t,0,none⟩),.func (.func 41) #[] #[.pointer (some ⟨w.heap.size,0,none⟩),.pointer (some ⟨W1.heap.size,0,none⟩),.pointer (some ⟨W1.heap.size + 1,0,none⟩)],.bool false,.map none] 89))
 have s2 : W2.heap.size = W1.heap.size + 1:=by rw [<- hW2]; simp
 have s3 : W3.heap.size = W1.heap.size + 1 + 1:=by rw [<- hW3]; simp [s2]
 have b2 : Below W1.heap.size W1 W2:=by rw [<- hW2]; exact za9 _ _
 have b3 : Below W2.heap.size W2 W3:=by rw [<- hW3]; exact za9 _ _
 have b4 : Below W3.heap.size W3 W4:=by rw [<- hW4]; exact za9 _ _
 have v2 : C1 W2 9 W1.heap.size (.string ⟨#[]⟩):=by rw [<- hW2]; exact C1.new _ _ _
 have f3 : C1 W3 4 (W1.heap.size + 1) (.bool false):=by rw [<- hW3,<- s2]; exact C1.new _ _ _
 have bx4 : W4.heap[W1.heap.size + 1 + 1]? = some (.cells #[tp t,.func (.func 41) #[] #[.pointer (some ⟨w.heap.size,0,none⟩),.pointer (some ⟨W1.heap.size,0,none⟩),.pointer (some ⟨W1.heap.size + 1,0,none⟩)],.bool false,.map none] 89 (0,0)):=by rw [<- hW4,<- s3]; exact heap_alloc_new W3 _
 have b14 : Below w.heap.size w W4:=((b1.trans (b2.mono b1.size)).trans (b3.mono (b1.trans (b2.mono b1.size)).size)).trans (b4.mono ((b1.trans (b2.mono b1.size)).trans (b3.mono (b1.trans (b2.mono b1.size)).size)).size)
 obtain ⟨E,hE⟩ : ∃ E : Nat -> Prop,∀ y,E y ↔ (y = W1.heap.size + 1 + 1 ∨ y = w.heap.size ∨ y = W1.heap.size ∨ y = W1.heap.size + 1):=⟨_,fun y => Iff.rfl⟩
 have J4 : IGt key t (W1.heap.size + 1 + 1) w.heap.size W1.heap.size (W1.heap.size + 1) none E (eS,false) W4:=⟨bx4,((k1.below b2).below b3).below b4,(v2.below b3).below b4,f3.below b4,hE⟩
 have hEg : ∀ y,E y -> w.heap.size <= y:=fun y hy => by rcases (hE y).1 hy with e | e | e | e <;> omega
 have FR:=zce9 (D:=getW key) (cnt:=fun _ => 0) (wb:=W1.heap.size + 1 + 1) (cc:=cc) (d:=d) (M:=M) (N:=N) (a:=a) (IGt key t (W1.heap.size + 1 + 1) w.heap.size W1.heap.size (W1.heap.size + 1))
  (fun sb => getOk sb (by omega) (by omega) (by omega) (by omega) (by omega) (by omega))
  (fun E s w' sb hJ => ⟨heap_setCell_same w' _ 3 _ _ _ hJ.bx,hJ.k.tch (tch_at _ _ _ _) (by omega),hJ.v.tch (tch_at _ _ _ _) (by omega),hJ.f.tch (tch_at _ _ _ _) (by omega),hJ.e⟩)
  (fun E s w' w'' S hJ ht hn => hJ.tch ht hn) (fun E s w' hJ => ⟨⟨_,_,_,hJ.bx⟩,(hJ.e _).2 (.inl rfl),hJ.lt⟩) x hx U E W4 (eS,false) (h.below b14) J4 (fun k hk e => by have:=h.ul k hk; have:=hEg k e; omega) rfl
 obtain ⟨r,hr⟩:=exH (getF a x key)
 have hr' : fromF (getW key) a (eS,false) x = r:=hr.out
 rw [hr'] at FR
 rw [hr.out]
 have HFR:=hideN FR
 have HB14:=hideN b14
 have HEG:=hideN hEg
 have HW2:=hideN hW2
 have HW3:=hideN hW3
 have HW4:=hideN hW4
 clear FR b14 hEg J4 bx4 f3 v2 b4 b3 b2 b1 k1 hW2 hW3 hW4 s1 s2 s3 h hx hr' hE
 go_enter Tryz.func12,Tryz.ntmps12
 go_wp2_with fail
 rw [HW2.out,HW3.out,HW4.out]
 refine HFR.out.mono ?_
 rintro e W5 ⟨rfl,F5,_⟩
 have HF:=hideN (F5.out HB14.out HEG.out)
 obtain ⟨U5,E5,m5,z5,j5,t5,u5,e5,d5⟩:=F5
 have v5:=j5.v.c
 have f5:=j5.f.c
 obtain ⟨rv,hrv⟩:=exH r.s.1
 obtain ⟨rf,hrf⟩:=exH r.s.2
 obtain ⟨re,hre⟩:=exH r.e
 rw [hrv.out] at v5
 rw [hrf.out] at f5
 rw [hre.out]
 clear z5 j5 t5 u5 e5 d5
 go_wp2_with fail
 go_quiet (fail)
 go_wp2_with fail
 go_ret3
 rw [hrv.out,hrf.out,hre.out]
 exact ⟨rfl,HF.out.below (belowN (zn6 _) _)⟩
theorem zpo9 (n : Nd) (u1 u2 u3 : Value) (x : Int) (lb s : Nat) (hs : s <= 15728640) (w : World) (h : Nn w n u1 u2 u3) (hv : Vk n) (hb : C1 w 3 lb (.int .i64 (s : Int))) (hap : ∀ j,u3.ownBlock = some j -> j ≠ lb) :
  Calls Tryz.prog 49 #[.int .i64 x,nod n.lf u1 u2 u3,.pointer (some ⟨lb,0,none⟩)] w fun e w' =>
   ∃ v,e = .returned v /\ C1 w' 3 lb (.int .i64 ((s + 1 : Nat) : Int)) /\ Tch (fun k => k = lb) w w' /\ RdV w' v (nums (n.kd.take 1)) /\ (∀ j,v.ownBlock = some j -> u3.ownBlock = some j):=by
 obtain ⟨a1,c1,a2,c2,a3,c3,rfl,rfl,rfl,⟨l1,l2,l3,l4,l5,l6⟩,_,_,_⟩:=h.out
 obtain ⟨L1,hL1⟩:=exH n.ks.length
 obtain ⟨L2,hL2⟩:=exH n.vs.length
 obtain ⟨L3,hL3⟩:=exH n.kd.length
 obtain ⟨lf,hlf⟩:=exH n.lf
 rw [hL1.out,hL2.out,hL3.out] at h
 rw [hL3.out] at l5
 rw [hL1.out,hL2.out,hL3.out,hlf.out]
 have hl:=hv.len
 rw [hL3.out] at hl
 obtain ⟨W1,hW1⟩:=exN (w.alloc (.cells #[.bool lf,.slice a1 L1 c1,.slice a2 L2 c2,.slice a3 L3 c3] 92))
 have b1 : Below w.heap.size w W1:=by rw [<- hW1]; exact za9 _ _
 have V1 : Nb W1 92 w.heap.size lf (.slice a1 L1 c1) (.slice a2 L2 c2) (.slice a3 L3 c3):=by rw [<- hW1]; exact nb_new _ _ _ _ _ _
 have hb1:=hb.below b1
 have g1:=hb1.c
 have g2:=hb1.fz
 obtain ⟨W2,hW2⟩:=exN (W1.setCell ⟨lb,0,none⟩ (.int .i64 ((s + 1 : Nat) : Int)))
 have t2 : Tch (fun y => y = lb) W1 W2:=by rw [<- hW2]; exact tch_at _ _ _ _
 have hb2 : C1 W2 3 lb (.int .i64 ((s + 1 : Nat) : Int)):=by rw [<- hW2]; exact hb1.set _
 have hne : w.heap.size ≠ lb:=fun e => by have:=hb.lt; omega
 have V2:=V1.tch t2 hne
 have m3:=V2.c3
 have h2 : RdV W2 (.slice a3 L3 c3) (nums n.kd):=((h.below b1).d).tch t2 (fun b hb' e => hap b (by rw [hL3.out]; exact hb') e)
 obtain ⟨q,hq⟩ : ∃ q,q = (if L3 < 1 then L3 else 1):=⟨_,rfl⟩
 have hql : q <= L3:=by rw [hq]; split <;> omega
 have hmn : ∀ (W : World) ts ty,(Builtin.min_ ts ty #[.int .i64 1,.int .i64 (L3 : Int)]).run Tryz.prog W = .ok (.int .i64 (q : Int)) W:=fun W ts ty => by
  rw [run_min_int2,hq]
  by_cases e : L3 < 1
  ·rw [if_pos (by omega),if_pos e]
  ·rw [if_neg (by omega),if_neg e]; rfl
 have SL:=fun W => uptoIV a3 L3 c3 q hql l5 W
 obtain ⟨sb',sc',hsl⟩:=zep9 (b:=a3) 0 q c3
 have hown : ∀ j,(sliced a3 0 q c3 1).ownBlock = some j -> (Value.slice a3 L3 c3).ownBlock = some j:=fun j hj => zcy9 hj
 have hrd : RdV W2 (sliced a3 0 q c3 1) (nums (n.kd.take 1)):=by
  have h4:=h2
  have e3 : L3 = (nums n.kd).length:=by rw [zh9,hL3.out]
  rw [e3] at h4
  have:=zak9 h4 0 q (zn7 _) (by rw [zh9,hL3.out]; exact hql)
  rw [List.drop_zero,Nat.sub_zero] at this
  have e4 : (nums n.kd).take q = nums (n.kd.take 1):=by
   rw [nums,<- List.map_take]
   congr 1
   rw [hq]
   split
   ·rename_i hh
    have : n.kd = []:=List.eq_nil_of_length_eq_zero (by rw [hL3.out]; omega)
    rw [this]; simp
   ·rfl
  rw [e4] at this
  exact this
 rw [hsl,Nat.sub_zero] at SL hown hrd
 have HFIN : Hid (C1 W2 3 lb (.int .i64 ((s + 1 : Nat) : Int)) /\ Tch (fun k => k = lb) w W2 /\ RdV W2 (.slice sb' q sc') (nums (n.kd.take 1)) /\ ∀ j,(Value.slice sb' q sc').ownBlock = some j -> (Value.slice a3 L3 c3).ownBlock = some j):=⟨hb2,(Tch.of_below (S:=fun k => k = lb) b1).trans t2 (fun _ _ e => e),hrd,hown⟩
 have w1:=wk_nat (x:=(s : Int) + 1) (t:=s + 1) (by omega) (by omega)
 have w2:=zr9 (x:=(s : Int) + 1) (t:=s + 1) (by omega) (by omega)
 rw [show ((s + 1 : Nat) : Int) = (s : Int) + 1 from rfl] at w1 w2 hW2
 unfold nod
 clear h hv hb hap b1 V1 hb1 t2 hb2 hne V2 h2 hown hrd hq hsl
 go_enter Tryz.func49,Tryz.ntmps49
 go_wp2_with fail
 try rw [hW2]
 go_ret
 exact ⟨_,rfl,HFIN.out⟩
structure ILv (t wb lb : Nat) (m : Option Nat) (E : Nat -> Prop) (s : Nat) (w : World) : Prop where
 bx : w.heap[wb]? = some (.cells #[tp t,.func (.func 49) #[] #[.pointer (some ⟨lb,0,none⟩)],.bool false,.map m] 89 (0,0))
 k : C1 w 3 lb (.int .i64 (s : Int))
 e : ∀ y,E y ↔ (y = wb ∨ y = lb)
section
variable {t wb lb : Nat} {m : Option Nat} {E : Nat -> Prop} {s : Nat} {w w' : World}
theorem ILv.tch (h : ILv t wb lb m E s w) {S : Nat -> Prop} (ht : Tch S w w') (hn : ∀ k,E k -> ¬ S k) : ILv t wb lb m E s w':=
 ⟨by rw [ht.block wb (Array.getElem?_eq_some_iff.1 h.bx).1 (hn wb ((h.e _).2 (.inl rfl)))]; exact h.bx,h.k.tch ht (hn lb ((h.e _).2 (.inr rfl))),h.e⟩
theorem ILv.lt (h : ILv t wb lb m E s w) : ∀ k,E k -> k < w.heap.size:=fun k hk => by
 rcases (h.e k).1 hk with e | e
 ·rw [e]; exact (Array.getElem?_eq_some_iff.1 h.bx).1
 ·rw [e]; exact h.k.lt
theorem kd_rng {n : Nd} (hv : Vk n) : ∀ k ∈ n.kd,0 <= k /\ k <= 65535:=fun k hk => by
 cases hl : n.lf with
 | true =>
  have:=(hv.leaf hl).2
  rw [List.eq_nil_of_length_eq_zero this] at hk
  cases hk
 | false =>
  obtain ⟨i,hi,rfl⟩:=List.getElem_of_mem hk
  have:=(hv.inner hl).1 i hi
  unfold dA at this
  rw [zn3,List.getElem?_eq_getElem hi] at this
  exact this
theorem levOk (sb : Nat) (h1 : lb ≠ wb) : WOk zdm9 t wb sb (fun s => s) (ILv t wb lb (some sb)) where
 tch:=fun E s w w' S h ht hn => h.tch ht hn
 lt:=fun E s w h => h.lt
 kd:=fun s x n hv k hk => kd_rng hv k (List.mem_of_mem_take hk)
 ln:=fun s x n hv => by show (n.kd.take 1).length <= 240; rw [List.length_take]; omega
 ct:=fun s x n hv => by show s + 1 <= s + 240; omega
 fn:=⟨_,_,enters_of Tryz.func49 (by kernel_rfl) rfl,fun E s w h => ⟨h.bx,(h.e _).2 (.inl rfl)⟩,fun E s x n u1 u2 u3 w h hn hv ha hx hc => by
  refine (zpo9 n u1 u2 u3 x lb s hc w hn hv h.k (fun j hj e => ha j (.inr (.inr hj)) ((h.e j).2 (.inr e)))).mono ?_
  rintro e w' ⟨v,rfl,q1,q3,q4,q5⟩
  refine ⟨E,v,rfl,⟨?_,q1,h.e⟩,q3.mono (fun k _ e => (h.e k).2 (.inr e)),fun k hk => .inl hk,q4,q5⟩
  rw [q3.block wb (Array.getElem?_eq_some_iff.1 h.bx).1 (fun e => h1 e.symm)]; exact h.bx⟩
end
noncomputable def levF (a : AS) (x : Int) : Int × Int:=if (fromF zdm9 a 0 x).e ≠ 0 then (0,(fromF zdm9 a 0 x).e) else (((fromF zdm9 a 0 x).s : Int),0)
theorem zkf9 {U : Nat -> Prop} {t cc d M N : Nat} {a : AS} (x : Int) (hx : 0 <= x /\ x <= 65535) (w : World) (h : Tz U w t cc d M N a) :
  Calls Tryz.prog 20 #[tp t,.int .i64 x] w fun e w' => e = .returned (.tuple #[.int .i64 (levF a x).1,.int .i64 (levF a x).2]) /\ TzTo U w w' t cc d M N a:=by
 have hmf : ∀ (fn : Fn) (first cap : Array Value) (w : World),(Instr.makeFunc fn first cap).run Tryz.prog w = .ok (.func fn first cap) w:=fun _ _ _ _ => rfl
 obtain ⟨W1,hW1⟩:=exN (w.alloc (.cells #[.int .i64 0] 3))
 obtain ⟨W2,hW2⟩:=exN (W1.alloc (.cells #[.pointer (some ⟨t,0,none⟩),.func (.func 49) #[] #[.pointer (some ⟨w.heap.size,0,none⟩)],.bool false,.map none] 89))
 have s1 : W1.heap.size = w.heap.size + 1:=by rw [<- hW1]; simp
 have b1 : Below w.heap.size w W1:=by rw [<- hW1]; exact za9 _ _
 have b2 : Below W1.heap.size W1 W2:=by rw [<- hW2]; exact za9 _ _
 have k1 : C1 W1 3 w.heap.size (.int .i64 0):=by rw [<- hW1]; exact C1.new _ _ _
 have bx2 : W2.heap[W1.heap.size]? = some (.cells #[tp t,.func (.func 49) #[] #[.pointer (some ⟨w.heap.size,0,none⟩)],.bool false,.map none] 89 (0,0)):=by rw [<- hW2]; exact heap_alloc_new W1 _
 have b12 : Below w.heap.size w W2:=b1.trans (b2.mono b1.size)
 obtain ⟨E,hE⟩ : ∃ E : Nat -> Prop,∀ y,E y ↔ (y = W1.heap.size ∨ y = w.heap.size):=⟨_,fun y => Iff.rfl⟩
 have J2 : ILv t W1.heap.size w.heap.size none E 0 W2:=⟨bx2,k1.below b2,hE⟩
 have hEg : ∀ y,E y -> w.heap.size <= y:=fun y hy => by rcases (hE y).1 hy with e | e <;> omega
 have FR:=zce9 (D:=zdm9) (cnt:=fun s => s) (wb:=W1.heap.size) (cc:=cc) (d:=d) (M:=M) (N:=N) (a:=a) (ILv t W1.heap.size w.heap.size)
  (fun sb => levOk sb (by omega))
  (fun E s w' sb hJ => ⟨heap_setCell_same w' _ 3 _ _ _ hJ.bx,hJ.k.tch (tch_at _ _ _ _) (by omega),hJ.e⟩)
  (fun E s w' w'' S hJ ht hn => hJ.tch ht hn) (fun E s w' hJ => ⟨⟨_,_,_,hJ.bx⟩,(hJ.e _).2 (.inl rfl),hJ.lt⟩) x hx U E W2 0 (h.below b12) J2 (fun k hk e => by have:=h.ul k hk; have:=hEg k e; omega) rfl
 obtain ⟨r,hr⟩:=exH (fromF zdm9 a 0 x)
 rw [hr.out] at FR
 obtain ⟨re,hre⟩:=exH r.e
 rw [hre.out] at FR
 have HLF : Hid (levF a x = if re ≠ 0 then (0,re) else ((r.s : Int),0)):=by
  show _ = _
  unfold levF
  rw [hr.out,hre.out]
 have HFR:=hideN FR
 have HB12:=hideN b12
 have HEG:=hideN hEg
 have HW1:=hideN hW1
 have HW2:=hideN hW2
 have HS1:=hideN s1
 clear FR b12 hEg J2 bx2 b2 b1 k1 s1 h hx hE hW1 hW2
 go_enter Tryz.func20,Tryz.ntmps20
 go_wp2_with fail
 rw [HW1.out]
 rw [<- HS1.out,HW2.out]
 refine HFR.out.mono ?_
 rintro e W3 ⟨rfl,F3,_⟩
 have HF:=hideN (F3.out HB12.out HEG.out)
 obtain ⟨U5,E5,m5,z5,j5,t5,u5,e5,d5⟩:=F3
 have v5:=j5.k.c
 obtain ⟨rs,hrs⟩:=exH ((r.s : Int))
 rw [hrs.out] at v5
 clear z5 j5 t5 u5 e5 d5 HFR
 by_cases hre0 : re = 0
 ·subst hre0
  go_wp2_with fail
  go_ret2
  rw [HLF.out,if_neg (by simp),hrs.out]
  exact ⟨rfl,HF.out⟩
 ·have df1 : (re == 0) = false:=by rw [beq_eq_false_iff_ne]; exact hre0
  have df2 : (re != 0) = true:=by rw [bne,df1]; rfl
  have HL2 : Hid (levF a x = (0,re)):=by show _ = _; rw [HLF.out,if_pos hre0]
  clear hre0
  go_wp2_with fail
  go_ret2
  rw [HL2.out]
  exact ⟨rfl,HF.out⟩
end Go.Proofs.YtcbnmjgbnbokgaaGreat
