import Derived.Test.YtjhccpijpffahaaGreatPTPrt
import Derived.Laws.EntriesVeiled
import Derived.Test.YtjhccpijpffahaaGreatPTGetT
import Derived.Lib.Strings
import Derived.Test.YtjhccpijpffahaaGreatPTBeg
set_option maxRecDepth 100000
set_option linter.unusedVariables false
set_option linter.unusedSimpArgs false
set_option maxHeartbeats 8000000
namespace Go.Proofs.YtjhccpijpffahaaGreat
open Go.RowKit Go.Maps Pl
theorem zsv9 {key val : ByteArray} (hk : key.size <= 1000) (hv : val.size <= 1000) {n : Nd} (h : SzT n) (hl : n.ks.length <= 240) (he : n.vs.length = n.ks.length) : SzT (insL key val n):=by
 have hd:=h.d
 unfold insL
 simp only
 split
 ·refine sz_of h.sm.km (fun s hs => ?_) h.k (by simp only [List.length_set]; exact h.v) h.d
  rcases List.mem_or_eq_of_mem_set hs with e | e
  ·exact h.sm.vm s e
  ·rw [e]; omega
 ·refine sz_of (fun s hs => ?_) (fun s hs => ?_) ?_ ?_ h.d
  ·rcases List.mem_append.1 hs with e | e
   ·exact h.sm.km s (List.mem_of_mem_take e)
   ·rcases List.mem_cons.1 e with rfl | e
    ·omega
    ·exact h.sm.km s (List.mem_of_mem_drop e)
  ·rcases List.mem_or_eq_of_mem_set hs with e | e
   ·rcases List.mem_append.1 e with e | e
    ·exact h.sm.vm s (List.mem_of_mem_take e)
    ·rcases List.mem_cons.1 e with rfl | e
     ·exact zn7 _
     ·exact h.sm.vm s (List.mem_of_mem_drop e)
   ·rw [e]; omega
  ·simp only [List.length_append,List.length_take,List.length_cons,List.length_drop]; omega
  ·simp only [List.length_set,List.length_append,List.length_take,List.length_cons,List.length_drop]; omega
theorem zrz9 {key : ByteArray} {n : Nd} (h : SzT n) : SzT (delL key n):=by
 have hd:=h.d
 have hk:=h.k
 have hv:=h.v
 unfold delL
 simp only
 split
 ·refine sz_of (fun s hs => ?_) (fun s hs => ?_) ?_ ?_ h.d
  ·rcases List.mem_append.1 hs with e | e
   ·exact h.sm.km s (List.mem_of_mem_take e)
   ·exact h.sm.km s (List.mem_of_mem_drop e)
  ·rcases List.mem_append.1 hs with e | e
   ·exact h.sm.vm s (List.mem_of_mem_take e)
   ·exact h.sm.vm s (List.mem_of_mem_drop e)
  ·simp only [List.length_append,List.length_take,List.length_drop]; omega
  ·simp only [List.length_append,List.length_take,List.length_drop]; omega
 ·exact h
theorem gz_new {U : Nat -> Prop} {w w' : World} {t cc d M N cb : Nat} {a : AS} (h : Tz U w t cc d M N a) (hb : Below w.heap.size w w') (hc : w.heap.size <= cb) (b : CB) (hcb : b.cb = cb) (hbox : w'.heap[cb]? = some (.cells #[tp t,.string b.key,b.fv,.bool b.jn,.int .i64 0,.slice none 0 0,.slice none 0 0] 114 (0,0))) : Gz (fun k => U k ∨ k = cb) w' t cc d M N a b ch0:=by
 subst hcb
 refine ⟨U,_,_,h.below hb,⟨hbox,zal9 _ _ _,zal9 _ _ _,fun j e => (by cases e),fun x hx => by rcases hx with e | e <;> cases e⟩,fun k hk e => ?_,fun k hk => ?_,fun k hk => ?_⟩
 ·rcases hk with rfl | q | q
  ·have:=h.ul _ e; omega
  ·cases q
  ·cases q
 ·rcases hk with q | q | q | q
  ·exact .inl q
  ·exact .inr q
  ·cases q
  ·cases q
 ·rcases hk with q | q
  ·exact zn1 (h.ul k q) hb.size
  ·rw [q]; exact (Array.getElem?_eq_some_iff.1 hbox).1
section
variable {U : Nat -> Prop} {t cc d M N : Nat} {a : AS}
theorem cloPut {w0 : World} {cb kb vb : Nat} {key val : ByteArray} (hk : key.size <= 1000) (hv : val.size <= 1000) (h1 : w0.cell? ⟨kb,0,none⟩ = some (.string key)) (h2 : w0.cell? ⟨vb,0,none⟩ = some (.string val)) :
  Clo (fun k => k = kb ∨ k = vb) w0 ⟨cb,.func (.func 51) #[] #[.pointer (some ⟨kb,0,none⟩),.pointer (some ⟨vb,0,none⟩)],key,false⟩ ⟨key,insL key val,false⟩ where
 key:=rfl
 jn:=rfl
 ks:=hk
 fn:=⟨_,_,rfl,enters_of Tryz.func51 (by kernel_rfl) rfl,fun n u1 u2 u3 W B hR hB hW ho hs hl he => by
  have k1 : W.cell? ⟨kb,0,none⟩ = some (.string key):=by rw [<- h1]; unfold World.cell?; rw [hR kb (.inl rfl)]
  have k2 : W.cell? ⟨vb,0,none⟩ = some (.string val):=by rw [<- h2]; unfold World.cell?; rw [hR vb (.inr rfl)]
  exact zqj9 n u1 u2 u3 key val kb vb W hW ho hs hl he k1 k2 (hB vb (.inr rfl))⟩
 sz:=fun n h hl he => zsv9 hk hv h hl he
theorem zld9 (x : Int) (hx : (Lit.int .i64 x).wf = true) (key val : ByteArray) (hkm : key.size <= 4611686018427387904) (hvm : val.size <= 4611686018427387904) (w : World) (h : Tz U w t cc d M N a) :
  Calls Tryz.prog 23 #[tp t,.int .i64 x,.string key,.string val] w fun e w' => e = .returned (.tuple #[.int .i64 (putF a x key val).x,.int .i64 (putF a x key val).e]) /\ TzTo U w w' t cc d M N (putF a x key val).a:=by
 obtain ⟨W1,hW1⟩:=exN (w.alloc (.cells #[.string key] 9))
 obtain ⟨W2,hW2⟩:=exN (W1.alloc (.cells #[.string val] 9))
 have s1 : W1.heap.size = w.heap.size + 1:=by rw [<- hW1]; simp
 have s2 : W2.heap.size = w.heap.size + 2:=by rw [<- hW2]; simp [s1]
 have b1 : Below w.heap.size w W1:=by rw [<- hW1]; exact za9 _ _
 have b2 : Below W1.heap.size W1 W2:=by rw [<- hW2]; exact za9 _ _
 have b12 : Below w.heap.size w W2:=b1.trans (b2.mono b1.size)
 have g1 : Rw 9 W2 w.heap.size [.string key]:=by
  have : Rw 9 W1 w.heap.size [.string key]:=by rw [<- hW1]; exact Rw.new _ _ _
  exact this.tch (Tch.of_below (S:=fun _ => False) b2) (fun e => e)
 have g2 : Rw 9 W2 W1.heap.size [.string val]:=by rw [<- hW2]; exact Rw.new _ _ _
 have k1 : W2.cell? ⟨w.heap.size,0,none⟩ = some (.string key):=by rw [g1.cell]; rfl
 have k2 : W2.cell? ⟨W1.heap.size,0,none⟩ = some (.string val):=by rw [g2.cell]; rfl
 have HT:=hideN h
 have HB12:=hideN b12
 have HSZ : Hid (W1.heap.size = w.heap.size + 1 /\ W2.heap.size = w.heap.size + 2):=⟨s1,s2⟩
 obtain ⟨PR,hPR⟩:=exH (putF a x key val)
 rw [hPR.out]
 have hmf : ∀ (fn : Fn) (first cap : Array Value) (w : World),(Instr.makeFunc fn first cap).run Tryz.prog w = .ok (.func fn first cap) w:=fun _ _ _ _ => rfl
 obtain ⟨em,hem⟩:=exN key.toList.isEmpty
 have hes : eqs key eS = em:=by rw [<- hem]; unfold eqs eS; simp
 have HBAD : Hid ((em = true ∨ 24 < key.size ∨ 24 < val.size) -> PR = ⟨0,1,a⟩):=fun hq => by
  rw [<- hPR.out]; unfold putF; rw [hes,if_pos hq]
 have HZW:=hideN (h.to_below b12)
 by_cases hbad : em = true ∨ 24 < key.size ∨ 24 < val.size
 ·have HP:=hideN (HBAD.out hbad)
  clear h b1 b2 b12 s1 s2 g1 g2 HBAD hPR hes hx
  go_enter Tryz.func23,Tryz.ntmps23
  by_cases q1 : em = true
  ·subst q1
   clear hbad
   go_wp2_with fail
   go_ret2
   rw [HP.out]
   exact ⟨rfl,HZW.out⟩
  ·have q2 : em = false:=by cases em with | false => rfl | true => exact absurd rfl q1
   subst q2
   by_cases q3 : 24 < key.size
   ·have l1 : decide ((24 : Int) < (key.size : Int)) = true:=by rw [decide_eq_true_iff]; omega
    have l1' : decide (24 < key.size) = true:=decide_eq_true q3
    clear hbad q1
    go_wp2_with fail
    go_ret2
    rw [HP.out]
    exact ⟨rfl,HZW.out⟩
   ·have q4 : 24 < val.size:=by rcases hbad with e | e | e <;> first | exact absurd e (by decide) | exact absurd e q3 | exact e
    have l1 : decide ((24 : Int) < (key.size : Int)) = false:=by rw [zn4]; omega
    have l1' : decide (24 < key.size) = false:=decide_eq_false q3
    have l2 : decide ((24 : Int) < (val.size : Int)) = true:=by rw [decide_eq_true_iff]; omega
    have l2' : decide (24 < val.size) = true:=decide_eq_true q4
    clear hbad q1
    go_wp2_with fail
    go_ret2
    rw [HP.out]
    exact ⟨rfl,HZW.out⟩
 ·have hk0 : em = false:=by cases em with | false => rfl | true => exact absurd (.inl rfl) hbad
  subst hk0
  have hk1 : key.size <= 24:=by omega
  have hv1 : val.size <= 24:=by omega
  have HP : Hid (PR = madeF ⟨key,insL key val,false⟩ a x):=by show _ = _; rw [<- hPR.out]; unfold putF; rw [hes,if_neg hbad]
  have l1 : decide ((24 : Int) < (key.size : Int)) = false:=by rw [zn4]; omega
  have l2 : decide ((24 : Int) < (val.size : Int)) = false:=by rw [zn4]; omega
  have l1' : decide (24 < key.size) = false:=by rw [zn4]; omega
  have l2' : decide (24 < val.size) = false:=by rw [zn4]; omega
  obtain ⟨W3,hW3⟩:=exN (W2.alloc (.cells #[tp t,.string key,.func (.func 51) #[] #[.pointer (some ⟨w.heap.size,0,none⟩),.pointer (some ⟨W1.heap.size,0,none⟩)],.bool false,.int .i64 0,.slice none 0 0,.slice none 0 0] 114))
  have b3 : Below W2.heap.size W2 W3:=by rw [<- hW3]; exact za9 _ _
  have b13 : Below w.heap.size w W3:=b12.trans (b3.mono b12.size)
  have bx3 : W3.heap[W2.heap.size]? = some (.cells #[tp t,.string key,.func (.func 51) #[] #[.pointer (some ⟨w.heap.size,0,none⟩),.pointer (some ⟨W1.heap.size,0,none⟩)],.bool false,.int .i64 0,.slice none 0 0,.slice none 0 0] 114 (0,0)):=by rw [<- hW3]; exact heap_alloc_new W2 _
  have G3:=gz_new h b13 (cb:=W2.heap.size) b12.size ⟨W2.heap.size,.func (.func 51) #[] #[.pointer (some ⟨w.heap.size,0,none⟩),.pointer (some ⟨W1.heap.size,0,none⟩)],key,false⟩ rfl bx3
  have k1' : W3.cell? ⟨w.heap.size,0,none⟩ = some (.string key):=by rw [b3.cell (World.block_lt_of_cell? W2 ⟨w.heap.size,0,none⟩ k1)]; exact k1
  have k2' : W3.cell? ⟨W1.heap.size,0,none⟩ = some (.string val):=by rw [b3.cell (World.block_lt_of_cell? W2 ⟨W1.heap.size,0,none⟩ k2)]; exact k2
  have s3:=b3.size
  have MP:=zhi9 ⟨key,insL key val,false⟩ (cloPut (cb:=W2.heap.size) (kb:=w.heap.size) (vb:=W1.heap.size) (by omega) (by omega) k1' k2') x hx W3 G3 (fun k hk => ⟨by omega,fun e => by
   rcases e with e | e
   ·have:=h.ul k e; omega
   ·omega,rfl⟩)
  rw [<- HP.out] at MP
  unfold chp at MP
  have HMP:=hideN MP
  have HB13:=hideN b13
  have HB3:=hideN (zn2 b12.size (zn6 W2.heap.size))
  unfold tp at hW3
  clear h b1 b2 b12 s1 s2 g1 g2 hbad HBAD hPR hes hx MP b3 b13 bx3 G3 k1' k2' s3
  go_enter Tryz.func23,Tryz.ntmps23
  go_wp2_with fail
  try rw [hW3]
  refine HMP.out.mono ?_
  rintro e W4 ⟨rfl,z4⟩
  have HF : Hid (TzTo U w W4 t cc d M N PR.a):=by
   obtain ⟨U',zz,tt,hu⟩:=z4
   have hs:=HB13.out.size
   have hs3:=HB3.out
   refine ⟨U',zz,(Tch.of_below (S:=U) HB13.out).trans tt (fun y hy e => e.elim id (fun e => by omega)),fun k hk => ?_⟩
   rcases hu k hk with (e | e) | e
   ·exact .inl e
   ·exact .inr (by omega)
   ·exact .inr (by omega)
  clear z4
  go_wp2_with fail
  go_ret2
  exact ⟨rfl,HF.out⟩
end
theorem eqs_eq {x y : ByteArray} (h : eqs x y = true) : x = y:=by
 unfold eqs at h
 rw [Go.Lib.toList_data,Go.Lib.toList_data,beq_iff_eq] at h
 cases x; cases y
 simp only [ByteArray.mk.injEq] at *
 exact Array.ext' h
theorem zsd9 {x y : ByteArray} : eqs x y = true ↔ x = y:=⟨eqs_eq,fun h => by subst h; unfold eqs; simp⟩
section
variable {σ : Type} {D : WD σ}
theorem zom9 {en : σ -> Bool} {rec : σ -> List Int -> Int -> DR σ} (Pr : σ -> Prop) (hrec : ∀ s z k,Pr s -> Pr (rec s z k).s) : ∀ (ks : List Int) (s : σ) (z : List Int),Pr s -> Pr (goF en rec ks s z).s
 | [],s,z,h => h
 | k :: r,s,z,h => by
  unfold goF
  split
  ·exact h
  ·split
   ·exact hrec s z k h
   ·exact zom9 Pr hrec r _ _ (hrec s z k h)
theorem zgy9 {a : AS} (hV : ∀ x,(a.V x).1 = 0 -> Vk (a.V x).2) (Pr : σ -> Prop) (hst : ∀ s x n,Vk n -> Pr s -> Pr (D.st s x n).1) : ∀ (f lv : Nat) (s : σ) (z : List Int) (x : Int),Pr s -> Pr (downF D a f lv s z x).s
 | 0,lv,s,z,x,h => by unfold downF; split <;> exact h
 | f + 1,lv,s,z,x,h => by
  unfold downF
  split
  ·exact h
  ·split
   ·exact h
   ·rename_i h0
    refine zom9 Pr (fun s z k hs => zgy9 hV Pr hst f (lv + 1) s z k hs) _ _ _ (hst s x _ ?_ h)
    unfold look at h0 ⊢
    split
    ·rename_i hl
     rw [if_pos hl] at h0
     exact absurd (by decide) h0
    ·rename_i hl
     rw [if_neg hl] at h0
     exact hV x (by simpa using h0)
theorem zmo9 {a : AS} (hV : ∀ x,(a.V x).1 = 0 -> Vk (a.V x).2) (Pr : σ -> Prop) (hst : ∀ s x n,Vk n -> Pr s -> Pr (D.st s x n).1) (s : σ) (x : Int) (h : Pr s) : Pr (fromF D a s x).s:=by
 unfold fromF
 split
 ·exact h
 ·exact zgy9 hV Pr hst 16 1 s [] x h
end
theorem zmq9 {a : AS} (hV : ∀ x,(a.V x).1 = 0 -> Vk (a.V x).2) (x : Int) (key : ByteArray) (h : (getF a x key).s.2 = true) : key.size <= 24:=by
 refine zmo9 hV (fun s => s.2 = true -> key.size <= 24) (fun s y n hn ih => ?_) (eS,false) x (fun e => by cases e) h
 intro h1
 unfold getW at h1
 simp only at h1
 split at h1
 ·rename_i hl
  split at h1
  ·rename_i hk
   have h2:=(zw9.1 hn.may).2.2.1 _ hk.1
   rw [<- eqs_eq hk.2]
   exact h2.1
  ·exact ih h1
 ·exact ih h1
theorem cloDel {w0 : World} {cb kb : Nat} {key : ByteArray} (hk : key.size <= 1000) (h1 : w0.cell? ⟨kb,0,none⟩ = some (.string key)) :
  Clo (fun k => k = kb) w0 ⟨cb,.func (.func 54) #[] #[.pointer (some ⟨kb,0,none⟩)],key,true⟩ ⟨key,delL key,true⟩ where
 key:=rfl
 jn:=rfl
 ks:=hk
 fn:=⟨_,_,rfl,enters_of Tryz.func54 (by kernel_rfl) rfl,fun n u1 u2 u3 W B hR hB hW ho hs hl he => by
  have k1 : W.cell? ⟨kb,0,none⟩ = some (.string key):=by rw [<- h1]; unfold World.cell?; rw [hR kb rfl]
  exact zps9 n u1 u2 u3 key kb W hW ho hs hl he k1⟩
 sz:=fun n h hl he => zrz9 h
theorem zpt9 {U : Nat -> Prop} {t cc d M N : Nat} {a : AS} (x : Int) (hx : 0 <= x /\ x <= 65535) (key : ByteArray) (w : World) (h : Tz U w t cc d M N a) :
  Calls Tryz.prog 24 #[tp t,.int .i64 x,.string key] w fun e w' => e = .returned (.tuple #[.int .i64 (delF a x key).x,.bool (delF a x key).ok,.int .i64 (delF a x key).e]) /\ TzTo U w w' t cc d M N (delF a x key).a:=by
 have hmf : ∀ (fn : Fn) (first cap : Array Value) (w : World),(Instr.makeFunc fn first cap).run Tryz.prog w = .ok (.func fn first cap) w:=fun _ _ _ _ => rfl
 obtain ⟨PR,hPR⟩:=exH (delF a x key)
 rw [hPR.out]
 obtain ⟨g,hg⟩:=exH (getF a x key)
 have HPR : Hid (PR = if g.e ≠ 0 then ⟨0,false,g.e,a⟩ else if g.s.2 = true then ⟨(madeF ⟨key,delL key,true⟩ a x).x,decide ((madeF ⟨key,delL key,true⟩ a x).e = 0),(madeF ⟨key,delL key,true⟩ a x).e,(madeF ⟨key,delL key,true⟩ a x).a⟩ else ⟨x,false,0,a⟩):=by
  show PR = _
  rw [<- hPR.out]
  unfold delF
  rw [hg.out]
 have HKS : Hid (g.s.2 = true -> key.size <= 24):=fun h2 => zmq9 (fun y hy => h.vok y hy) x key (by rw [hg.out]; exact h2)
 obtain ⟨W1,hW1⟩:=exN (w.alloc (.cells #[.string key] 9))
 have b1 : Below w.heap.size w W1:=by rw [<- hW1]; exact za9 _ _
 have k1 : C1 W1 9 w.heap.size (.string key):=by rw [<- hW1]; exact C1.new _ _ _
 have c1:=k1.c
 have GT:=zfy9 x hx key W1 (h.below b1)
 rw [hg.out] at GT
 obtain ⟨gv,hgv⟩:=exH g.s.1
 obtain ⟨gf,hgf⟩:=exH g.s.2
 obtain ⟨ge,hge⟩:=exH g.e
 rw [hgv.out,hgf.out,hge.out] at GT
 have HGT:=hideN GT
 have HB1:=hideN b1
 have HK1:=hideN k1
 have HUL:=hideN h.ul
 have HX:=hideN (zap9 (x:=x) (by omega) (by omega))
 clear h hx b1 k1 GT
 go_enter Tryz.func24,Tryz.ntmps24
 go_wp2_with fail
 refine HGT.out.mono ?_
 rintro e W2 ⟨rfl,z2⟩
 have HZ2:=hideN z2
 have HZW : Hid (TzTo U w W2 t cc d M N a):=TzTo.after (Tch.of_below HB1.out) (fun _ e => .inl e) z2
 have hk2 : C1 W2 9 w.heap.size (.string key):=by
  obtain ⟨U2,_,t2,_⟩:=z2
  exact HK1.out.tch t2 (fun e => by have:=HUL.out _ e; omega)
 have c2:=hk2.c
 have HK2:=hideN hk2
 clear z2 hk2 c1 HGT
 by_cases hge0 : ge = 0
 ·subst hge0
  cases gf
  ·have HP : Hid (PR = ⟨x,false,0,a⟩):=by
    show PR = _
    rw [HPR.out,if_neg (by rw [hge.out]; simp),hgf.out,if_neg (by decide)]
   go_wp2_with fail
   go_ret3
   rw [HP.out]
   exact ⟨rfl,HZW.out⟩
  ·have hks:=HKS.out hgf.out
   have HP : Hid (PR = ⟨(madeF ⟨key,delL key,true⟩ a x).x,decide ((madeF ⟨key,delL key,true⟩ a x).e = 0),(madeF ⟨key,delL key,true⟩ a x).e,(madeF ⟨key,delL key,true⟩ a x).a⟩):=by
    show PR = _
    rw [HPR.out,if_neg (by rw [hge.out]; simp),hgf.out,if_pos rfl]
   obtain ⟨U2,y2,t2,u2⟩:=HZ2.out
   obtain ⟨W3,hW3⟩:=exN (W2.alloc (.cells #[.pointer (some ⟨t,0,none⟩),.string key,.func (.func 54) #[] #[.pointer (some ⟨w.heap.size,0,none⟩)],.bool true,.int .i64 0,.slice none 0 0,.slice none 0 0] 114))
   have b3 : Below W2.heap.size W2 W3:=by rw [<- hW3]; exact za9 _ _
   have bx3 : W3.heap[W2.heap.size]? = some (.cells #[tp t,.string key,.func (.func 54) #[] #[.pointer (some ⟨w.heap.size,0,none⟩)],.bool true,.int .i64 0,.slice none 0 0,.slice none 0 0] 114 (0,0)):=by rw [<- hW3]; exact heap_alloc_new W2 _
   have G3:=gz_new y2 b3 (cb:=W2.heap.size) (zn6 _) ⟨W2.heap.size,.func (.func 54) #[] #[.pointer (some ⟨w.heap.size,0,none⟩)],key,true⟩ rfl bx3
   have k3:=HK2.out.below b3
   have hlt:=HK2.out.lt
   have hlt1:=HK1.out.lt
   have MP:=zhi9 ⟨key,delL key,true⟩ (cloDel (cb:=W2.heap.size) (kb:=w.heap.size) (by omega) k3.c) x HX.out W3 G3 (fun k hk => ⟨by rw [hk]; exact k3.lt,fun e => by
    rcases e with e | e
    ·rcases u2 k e with q | q
     ·have:=HUL.out k q; omega
     ·omega
    ·omega,rfl⟩)
   obtain ⟨mr,hmr⟩:=exH (madeF ⟨key,delL key,true⟩ a x)
   have HP':=HP.out
   rw [hmr.out] at MP HP'
   have HP2:=hideN HP'
   unfold chp at MP
   obtain ⟨mx,hmx⟩:=exH mr.x
   obtain ⟨me,hme⟩:=exH mr.e
   rw [hmx.out,hme.out] at MP
   have HMP:=hideN MP
   have HFI : Hid (∀ W4 A,TzTo (fun k => U2 k ∨ k = W2.heap.size) W3 W4 t cc d M N A -> TzTo U w W4 t cc d M N A):=fun W4 A hz => by
    obtain ⟨U4,z4,t4,u4⟩:=hz
    have h1:=HB1.out.size
    have h2:=t2.size
    have h3:=b3.size
    refine TzTo.after (w:=W1) (U:=U) (Tch.of_below HB1.out) (fun _ e => .inl e) ⟨U4,z4,(t2.trans (Tch.of_below (S:=U) b3) (fun _ _ e => e)).trans t4 (fun y hy e => ?_),fun k hk => ?_⟩
    ·rcases e with e | e
     ·exact (u2 y e).elim id (fun q => by omega)
     ·omega
    ·rcases u4 k hk with (e | e) | e
     ·exact u2 k e
     ·exact .inr (by omega)
     ·exact .inr (by omega)
   have HW3:=hideN hW3
   clear hks y2 t2 u2 b3 bx3 G3 k3 hlt hlt1 MP hW3 HP'
   go_wp2_with fail
   rw [HW3.out]
   refine HMP.out.mono ?_
   rintro e W4 ⟨rfl,z4⟩
   have HZ4:=hideN (HFI.out W4 _ z4)
   clear z4
   by_cases hme0 : me = 0
   ·subst hme0
    go_wp2_with fail
    go_ret3
    rw [HP2.out,hmx.out,hme.out]
    exact ⟨rfl,HZ4.out⟩
   ·have df1 : (me == 0) = false:=by rw [beq_eq_false_iff_ne]; exact hme0
    have df2 : decide (me = 0) = false:=decide_eq_false hme0
    have HD : Hid (decide (me = 0) = false):=df2
    go_wp2_with fail
    go_ret3
    rw [HP2.out]
    simp only [hmx.out,hme.out]
    rw [HD.out]
    exact ⟨rfl,HZ4.out⟩
 ·have de1 : (ge == 0) = false:=by rw [beq_eq_false_iff_ne]; exact hge0
  have de2 : (ge != 0) = true:=by rw [bne,de1]; rfl
  have HP : Hid (PR = ⟨0,false,ge,a⟩):=by
   show PR = _
   rw [HPR.out,if_pos (by rw [hge.out]; exact hge0),hge.out]
  clear hge0
  go_wp2_with fail
  go_ret3
  rw [HP.out]
  exact ⟨rfl,HZW.out⟩
def lfA : Nd:=⟨true,[⟨#[97]⟩],[⟨#[49]⟩],[]⟩
theorem lfA_sz : szN lfA lfA.ks.length = 5:=by rfl
theorem ltT_ab : lts ⟨#[97]⟩ ⟨#[98]⟩ = true:=by unfold lts; rw [ByteArray.toList_eq,ByteArray.toList_eq]; decide
theorem neT_a : eqs ⟨#[97]⟩ eS = false:=by unfold eqs eS; rw [ByteArray.toList_eq,ByteArray.toList_eq]; decide
theorem ztc9 : mayN lfA = true:=by
 rw [zw9]
 unfold MayP
 refine ⟨by decide,by rw [lfA_sz,zax9 (by decide)]; decide,fun i hi => ?_,?_⟩
 ·have hi2 : i < 1:=hi
  match i,hi2 with
  | 0,_ => exact ⟨by decide,fun h => absurd h (by decide),fun _ => neT_a⟩
 ·rw [if_pos (show lfA.lf = true from rfl)]
  refine ⟨fun i hi => ?_,rfl,rfl⟩
  have hi2 : i < 1:=hi
  match i,hi2 with
  | 0,_ => decide
theorem lv_ins : insL ⟨#[97]⟩ ⟨#[49]⟩ leaf0 = lfA:=by
 unfold insL
 simp only
 rw [if_neg (fun e => absurd e.1 (by decide))]
 rfl
theorem lv_pc : piecesF lfA = [lfA]:=by
 unfold piecesF
 rw [if_neg (by decide),lfA_sz,if_pos (by rw [zax9 (by decide)]; decide)]
theorem zkr9 : Ah.take (as0 30).A = (50,true,⟨50,(List.replicate 30 0).set 0 1,0⟩):=by
 unfold Ah.take as0 Ah.new
 simp only
 rw [if_neg (by decide)]
 rfl
theorem zqo9 : writeF (as0 30) ch0 lfA = ⟨50,0,(as0 30).wr lfA,{ ch0 with tk:=[50] }⟩:=by
 unfold writeF
 rw [if_pos ztc9,if_pos (by rw [zkr9]),zkr9]
 rfl
theorem lv_put : putF (as0 30) 0 ⟨#[97]⟩ ⟨#[49]⟩ = ⟨50,0,(as0 30).wr lfA⟩:=by
 unfold putF
 rw [neT_a,if_neg (by decide)]
 have hp : partsF ⟨⟨#[97]⟩,insL ⟨#[97]⟩ ⟨#[49]⟩,false⟩ (as0 30) ch0 0 = ⟨0,[lfA],as0 30,ch0⟩:=by
  unfold partsF
  rw [if_pos rfl]
  show (⟨0,piecesF (insL ⟨#[97]⟩ ⟨#[49]⟩ leaf0),as0 30,ch0⟩ : BR) = _
  rw [lv_ins,lv_pc]
 have hr : rootedF ⟨⟨#[97]⟩,insL ⟨#[97]⟩ ⟨#[49]⟩,false⟩ (as0 30) ch0 0 = ⟨50,0,(as0 30).wr lfA,{ ch0 with tk:=[50] }⟩:=by
  unfold rootedF
  rw [hp]
  show (if (0 : Int) ≠ 0 then _ else _) = _
  rw [if_neg (by simp)]
  show (if [lfA].length = 0 then _ else _) = _
  rw [if_neg (by decide)]
  show (if [lfA].length = 1 then _ else _) = _
  rw [if_pos (show [lfA].length = 1 from rfl)]
  show (if lfA.kd.length = 1 then _ else _) = _
  rw [if_neg (by decide)]
  exact zqo9
 unfold madeF
 rw [hr]
 rfl
theorem lv_V : ((as0 30).wr lfA).V 50 = (0,lfA):=by
 unfold AS.wr
 rw [zkr9]
 show updI (as0 30).V 50 (0,lfA) 50 = _
 exact zca9 _ _ _
theorem zos9 (key : ByteArray) : getF ((as0 30).wr lfA) 50 key = ⟨0,((getW key).st (eS,false) 50 lfA).1,[50]⟩:=by
 unfold getF fromF
 rw [if_neg (by decide),downF,if_neg (by simp)]
 have hl : look ((as0 30).wr lfA) 50 1 = (0,lfA):=by unfold look; rw [if_neg (by decide)]; exact lv_V
 rw [hl]
 rfl
theorem lv_a : getF ((as0 30).wr lfA) 50 ⟨#[97]⟩ = ⟨0,(⟨#[49]⟩,true),[50]⟩:=by
 rw [zos9]
 have h1 : lts (kA lfA 0) ⟨#[97]⟩ = false:=by unfold lts; exact bl_irr _
 have hp : plc lfA ⟨#[97]⟩ lfA.ks.length = 0:=by
  show plc lfA ⟨#[97]⟩ (0 + 1) = 0
  unfold plc
  rw [if_pos (show lfA.lf = true from rfl),if_neg (by rw [h1]; decide)]
  rfl
 unfold getW
 simp only [hp]
 rw [if_pos (show lfA.lf = true from rfl),if_pos ⟨by decide,zsd9.2 rfl⟩]
 rfl
theorem lv_b : getF ((as0 30).wr lfA) 50 ⟨#[98]⟩ = ⟨0,(eS,false),[50]⟩:=by
 rw [zos9]
 have hp : plc lfA ⟨#[98]⟩ lfA.ks.length = 1:=by
  show plc lfA ⟨#[98]⟩ (0 + 1) = 1
  unfold plc
  rw [if_pos (show lfA.lf = true from rfl),if_pos (show lts (kA lfA 0) ⟨#[98]⟩ = true from ltT_ab)]
 unfold getW
 simp only [hp]
 rw [if_pos (show lfA.lf = true from rfl),if_neg (fun e => absurd e.1 (by decide))]
theorem zkq9 (w : World) : Calls Tryz.prog 15 #[] w fun e w' => e = .returned (.bool true) /\ Below w.heap.size w w':=by
 have BG:=zjh9 30 (by decide) (by decide) w
 rw [show ((30 : Nat) : Int) = 30 from rfl] at BG
 have HBG:=hideN BG
 clear BG
 go_enter Tryz.func15,Tryz.ntmps15
 go_wp2_with fail
 refine HBG.out.mono ?_
 rintro e W1 ⟨U,b,t,c,d,M,rfl,l1,u1,b1,bl1⟩
 have k3 : W1.cell? ⟨b,3,none⟩ = some (tp t):=by rw [l1.cl]; rfl
 have PT:=zld9 0 (by decide) ⟨#[97]⟩ ⟨#[49]⟩ (by decide) (by decide) W1 l1.tz
 rw [lv_put] at PT
 have HPT:=hideN PT
 have HL1:=hideN l1
 have HU1:=hideN u1
 have HBL : Hid (w.heap.size <= b /\ Below w.heap.size w W1):=⟨b1,bl1⟩
 clear PT l1 u1 b1 bl1 HBG
 go_wp2_with fail
 refine HPT.out.mono ?_
 rintro e W2 ⟨rfl,z2⟩
 obtain ⟨U2,l2,t2,h2⟩:=HL1.out.to z2
 have B2 : Below w.heap.size w W2:=HBL.out.2.trans (t2.below HBL.out.2.size (fun k hk => HU1.out k hk))
 have hu2 : ∀ k,U2 k -> w.heap.size <= k:=fun k hk => (h2 k hk).elim (HU1.out k) (fun e => by have:=HBL.out.2.size; omega)
 have GA:=zfy9 50 ⟨by decide,by decide⟩ ⟨#[97]⟩ W2 l2.tz
 rw [lv_a] at GA
 have HGA:=hideN GA
 have k3' : W2.cell? ⟨b,3,none⟩ = some (tp t):=by rw [l2.cl]; rfl
 have HL2:=hideN l2
 have HB2:=hideN B2
 have HU2:=hideN hu2
 clear z2 l2 t2 h2 B2 hu2 GA k3 HPT
 go_wp2_with fail
 refine HGA.out.mono ?_
 rintro e W3 ⟨rfl,z3⟩
 obtain ⟨U3,l3,t3,h3⟩:=HL2.out.to z3
 have B3 : Below w.heap.size w W3:=HB2.out.trans (t3.below HB2.out.size (fun k hk => HU2.out k hk))
 have hu3 : ∀ k,U3 k -> w.heap.size <= k:=fun k hk => (h3 k hk).elim (HU2.out k) (fun e => by have:=HB2.out.size; omega)
 have GB:=zfy9 50 ⟨by decide,by decide⟩ ⟨#[98]⟩ W3 l3.tz
 rw [lv_b] at GB
 have HGB:=hideN GB
 have k3 : W3.cell? ⟨b,3,none⟩ = some (tp t):=by rw [l3.cl]; rfl
 have HL3:=hideN l3
 have HB3:=hideN B3
 have HU3:=hideN hu3
 clear z3 l3 t3 h3 B3 hu3 GB k3' HGA
 go_wp2_with fail
 refine HGB.out.mono ?_
 rintro e W4 ⟨rfl,z4⟩
 have HB4 : Hid (Below w.heap.size w W4):=by
  obtain ⟨U4,l4,t4,h4⟩:=HL3.out.to z4
  exact HB3.out.trans (t4.below HB3.out.size (fun k hk => HU3.out k hk))
 clear z4 k3 HGB
 go_wp2_with fail
 go_ret
 exact ⟨by first | rfl | simp,HB4.out⟩
end Go.Proofs.YtjhccpijpffahaaGreat
