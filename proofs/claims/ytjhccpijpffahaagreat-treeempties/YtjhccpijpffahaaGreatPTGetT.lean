import Derived.Test.YtjhccpijpffahaaGreatPTBz
import Derived.Laws.EntriesVeiled
set_option maxRecDepth 100000
set_option linter.unusedVariables false
set_option linter.unusedSimpArgs false
set_option maxHeartbeats 8000000
namespace Go.Proofs.YtjhccpijpffahaaGreat
open Go.RowKit Go.Maps Pl
structure IGt (key : ByteArray) (t wb kb vb fb : Nat) (m : Option Nat) (E : Nat -> Prop) (s : ByteArray × Bool) (w : World) : Prop where
 bx : w.heap[wb]? = some (.cells #[tp t,.func (.func 41) #[] #[.pointer (some ⟨kb,0,none⟩),.pointer (some ⟨vb,0,none⟩),.pointer (some ⟨fb,0,none⟩)],.bool false,.map m] 90 (0,0))
 k : C1 w 9 kb (.string key)
 v : C1 w 9 vb (.string s.1)
 f : C1 w 4 fb (.bool s.2)
 e : ∀ y,E y ↔ (y = wb ∨ y = kb ∨ y = vb ∨ y = fb)
section
variable {key : ByteArray} {t wb kb vb fb : Nat} {m : Option Nat} {E : Nat -> Prop} {s : ByteArray × Bool} {w w' : World}
theorem IGt.tch (h : IGt key t wb kb vb fb m E s w) {S : Nat -> Prop} (ht : Tch S w w') (hn : ∀ k,E k -> ¬ S k) : IGt key t wb kb vb fb m E s w':=
 ⟨by rw [ht.block wb (Array.getElem?_eq_some_iff.1 h.bx).1 (hn wb ((h.e _).2 (.inl rfl)))]; exact h.bx,h.k.tch ht (hn kb ((h.e _).2 (.inr (.inl rfl)))),h.v.tch ht (hn vb ((h.e _).2 (.inr (.inr (.inl rfl))))),h.f.tch ht (hn fb ((h.e _).2 (.inr (.inr (.inr rfl))))),h.e⟩
theorem IGt.lt (h : IGt key t wb kb vb fb m E s w) : ∀ k,E k -> k < w.heap.size:=fun k hk => by
 rcases (h.e k).1 hk with e | e | e | e
 ·rw [e]; exact (Array.getElem?_eq_some_iff.1 h.bx).1
 ·rw [e]; exact h.k.lt
 ·rw [e]; exact h.v.lt
 ·rw [e]; exact h.f.lt
theorem zol9 (key : ByteArray) (s : ByteArray × Bool) (x : Int) (n : Nd) (hv : Vk n) : (∀ k ∈ ((getW key).st s x n).2,0 <= k /\ k <= 65535) /\ ((getW key).st s x n).2.length <= 240:=by
 cases hl : n.lf with
 | true => simp [getW,hl]
 | false =>
  have h1:=hv.inner hl
  have h2:=plc_in hl key n.ks.length hv.pos
  have h3:=h1.1 (plc n key n.ks.length) (by omega)
  simp only [getW,hl,Bool.false_eq_true,if_false]
  exact ⟨fun k hk => by rw [List.mem_singleton.1 hk]; exact h3,by simp⟩
theorem getOk (sb : Nat) (h1 : kb ≠ wb) (h2 : vb ≠ wb) (h3 : fb ≠ wb) (h4 : kb ≠ vb) (h5 : kb ≠ fb) (h6 : vb ≠ fb) : WOk (getW key) t wb sb (fun _ => 0) (IGt key t wb kb vb fb (some sb)) where
 tch:=fun E s w w' S h ht hn => h.tch ht hn
 lt:=fun E s w h => h.lt
 kd:=fun s x n hv => (zol9 key s x n hv).1
 ln:=fun s x n hv => (zol9 key s x n hv).2
 ct:=fun s x n hv => zn7 _
 fn:=⟨_,_,enters_of Tryz.func41 (by kernel_rfl) rfl,fun E s w h => ⟨h.bx,(h.e _).2 (.inl rfl)⟩,fun E s x n u1 u2 u3 w h hn hv ha hx hc => by
  refine (zqc9 n u1 u2 u3 x key kb vb fb s w hn hv h.k h.v h.f h6).mono ?_
  rintro e w' ⟨v,rfl,q1,q2,q3,q4,q5⟩
  have t3 : Tch E w w':=q3.mono (fun k _ e => (h.e k).2 (e.elim (fun e => .inr (.inr (.inl e))) (fun e => .inr (.inr (.inr e)))))
  refine ⟨E,v,rfl,⟨?_,h.k.tch q3 (fun e => e.elim h4 h5),q1,q2,h.e⟩,t3,fun k hk => .inl hk,q4,q5⟩
  rw [q3.block wb (Array.getElem?_eq_some_iff.1 h.bx).1 (fun e => e.elim (fun e => h2 e.symm) (fun e => h3 e.symm))]; exact h.bx⟩
end
theorem zfy9 {U : Nat -> Prop} {t cc d M N : Nat} {a : AS} (x : Int) (hx : 0 <= x /\ x <= 65535) (key : ByteArray) (w : World) (h : Tz U w t cc d M N a) :
  Calls Tryz.prog 12 #[tp t,.int .i64 x,.string key] w fun e w' => e = .returned (.tuple #[.string (getF a x key).s.1,.bool (getF a x key).s.2,.int .i64 (getF a x key).e]) /\ TzTo U w w' t cc d M N a:=by
 have hmf : ∀ (fn : Fn) (first cap : Array Value) (w : World),(Instr.makeFunc fn first cap).run Tryz.prog w = .ok (.func fn first cap) w:=fun _ _ _ _ => rfl
 obtain ⟨W1,hW1⟩:=exN (w.alloc (.cells #[.string key] 9))
 have k1 : C1 W1 9 w.heap.size (.string key):=by rw [<- hW1]; exact C1.new _ _ _
 have b1 : Below w.heap.size w W1:=by rw [<- hW1]; exact za9 _ _
 have s1 : W1.heap.size = w.heap.size + 1:=by rw [<- hW1]; simp
 obtain ⟨W2,hW2⟩:=exN (W1.alloc (.cells #[.string ⟨#[]⟩] 9))
 obtain ⟨W3,hW3⟩:=exN (W2.alloc (.cells #[.bool false] 4))
 obtain ⟨W4,hW4⟩:=exN (W3.alloc (.cells #[.pointer (some ⟨t,0,none⟩),.func (.func 41) #[] #[.pointer (some ⟨w.heap.size,0,none⟩),.pointer (some ⟨W1.heap.size,0,none⟩),.pointer (some ⟨W1.heap.size + 1,0,none⟩)],.bool false,.map none] 90))
 have s2 : W2.heap.size = W1.heap.size + 1:=by rw [<- hW2]; simp
 have s3 : W3.heap.size = W1.heap.size + 1 + 1:=by rw [<- hW3]; simp [s2]
 have b2 : Below W1.heap.size W1 W2:=by rw [<- hW2]; exact za9 _ _
 have b3 : Below W2.heap.size W2 W3:=by rw [<- hW3]; exact za9 _ _
 have b4 : Below W3.heap.size W3 W4:=by rw [<- hW4]; exact za9 _ _
 have v2 : C1 W2 9 W1.heap.size (.string ⟨#[]⟩):=by rw [<- hW2]; exact C1.new _ _ _
 have f3 : C1 W3 4 (W1.heap.size + 1) (.bool false):=by rw [<- hW3,<- s2]; exact C1.new _ _ _
 have bx4 : W4.heap[W1.heap.size + 1 + 1]? = some (.cells #[tp t,.func (.func 41) #[] #[.pointer (some ⟨w.heap.size,0,none⟩),.pointer (some ⟨W1.heap.size,0,none⟩),.pointer (some ⟨W1.heap.size + 1,0,none⟩)],.bool false,.map none] 90 (0,0)):=by rw [<- hW4,<- s3]; exact heap_alloc_new W3 _
 have b14 : Below w.heap.size w W4:=((b1.trans (b2.mono b1.size)).trans (b3.mono (b1.trans (b2.mono b1.size)).size)).trans (b4.mono ((b1.trans (b2.mono b1.size)).trans (b3.mono (b1.trans (b2.mono b1.size)).size)).size)
 obtain ⟨E,hE⟩ : ∃ E : Nat -> Prop,∀ y,E y ↔ (y = W1.heap.size + 1 + 1 ∨ y = w.heap.size ∨ y = W1.heap.size ∨ y = W1.heap.size + 1):=⟨_,fun y => Iff.rfl⟩
 have J4 : IGt key t (W1.heap.size + 1 + 1) w.heap.size W1.heap.size (W1.heap.size + 1) none E (eS,false) W4:=⟨bx4,((k1.below b2).below b3).below b4,(v2.below b3).below b4,f3.below b4,hE⟩
 have hEg : ∀ y,E y -> w.heap.size <= y:=fun y hy => by rcases (hE y).1 hy with e | e | e | e <;> omega
 have FR:=zmp9 (D:=getW key) (cnt:=fun _ => 0) (wb:=W1.heap.size + 1 + 1) (cc:=cc) (d:=d) (M:=M) (N:=N) (a:=a) (IGt key t (W1.heap.size + 1 + 1) w.heap.size W1.heap.size (W1.heap.size + 1))
  (fun sb => getOk sb (by omega) (by omega) (by omega) (by omega) (by omega) (by omega))
  (fun E s w' sb hJ => ⟨heap_setCell_same w' _ 3 _ _ _ hJ.bx,hJ.k.tch (tch_at _ _ _ _) (by omega),hJ.v.tch (tch_at _ _ _ _) (by omega),hJ.f.tch (tch_at _ _ _ _) (by omega),hJ.e⟩)
  (fun E s w' w'' S hJ ht hn => hJ.tch ht hn) (fun E s w' hJ => ⟨⟨_,_,_,hJ.bx⟩,(hJ.e _).2 (.inl rfl),hJ.lt⟩) x hx U E W4 (eS,false) (h.below b14) J4 (fun k hk e => by have:=h.ul k hk; have:=hEg k e; omega) rfl
 obtain ⟨r,hr⟩:=exH (getF a x key)
 have hr' : fromF (getW key) a (eS,false) x = r:=hr.out
 rw [hr'] at FR
 rw [hr.out]
 have HFR:=hideN FR
 have HB14:=hideN b14
 have HEG:=hideN hEg
 have HW2:=hideN hW2
 have HW3:=hideN hW3
 have HW4:=hideN hW4
 clear FR b14 hEg J4 bx4 f3 v2 b4 b3 b2 b1 k1 hW2 hW3 hW4 s1 s2 s3 h hx hr' hE
 go_enter Tryz.func12,Tryz.ntmps12
 go_wp2_with fail
 rw [HW2.out,HW3.out,HW4.out]
 refine HFR.out.mono ?_
 rintro e W5 ⟨rfl,F5,_⟩
 have HF:=hideN (F5.out HB14.out HEG.out)
 obtain ⟨U5,E5,m5,z5,j5,t5,u5,e5,d5⟩:=F5
 have v5:=j5.v.c
 have f5:=j5.f.c
 obtain ⟨rv,hrv⟩:=exH r.s.1
 obtain ⟨rf,hrf⟩:=exH r.s.2
 obtain ⟨re,hre⟩:=exH r.e
 rw [hrv.out] at v5
 rw [hrf.out] at f5
 rw [hre.out]
 clear z5 j5 t5 u5 e5 d5
 go_wp2_with fail
 go_quiet (fail)
 go_wp2_with fail
 go_ret3
 rw [hrv.out,hrf.out,hre.out]
 exact ⟨rfl,HF.out.below (belowN (zn6 _) _)⟩
end Go.Proofs.YtjhccpijpffahaaGreat
