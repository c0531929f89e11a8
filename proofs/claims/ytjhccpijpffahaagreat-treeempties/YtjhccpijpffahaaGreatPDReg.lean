import Derived.Test.YtjhccpijpffahaaGreatPRow0
import Derived.Deep.MidRow
import Derived.Deep.RegionHeld3
set_option maxRecDepth 100000
set_option linter.unusedVariables false
set_option linter.unusedSimpArgs false
set_option maxHeartbeats 8000000
namespace Go.Proofs.YtjhccpijpffahaaGreat
open Go.RowKit
def opIs (ops : Array Oper) (i : Nat) (t : Option Tmp) (x : Op) : Prop:=(ops[i]?).map (fun o => (o.dst,o.op,o.guard)) = some (t,x,none)
section
variable {P : Program} {md : Region.Mode} {ops : Array Oper} {Q : Exit -> Act -> World -> Prop} {S : World -> Prop} {fuel : Nat} {listed : Array Bool} {a : Act} {w : World}
theorem opIs.get {i : Nat} {t : Option Tmp} {x : Op} (h : opIs ops i t x) : ∃ o,ops[i]? = some o /\ o.dst = t /\ o.op = x /\ o.guard = none:=by
 unfold opIs at h
 cases e : ops[i]? with
 | none => rw [e] at h; cases h
 | some o =>
  rw [e] at h
  simp only [Option.map_some,Option.some.injEq,Prod.mk.injEq] at h
  exact ⟨o,rfl,h.1,h.2.1,h.2.2⟩
theorem takeT (i : Nat) (t : Option Tmp) (x : Op) (v : Value) (hi : opIs ops i t x) (hs : Region.noSelect ops = true) (hf : Region.free md ops listed i = true) (hr : (Region.ready md ops listed).contains i = true)
  (hQ : ∀ c a w,Q (.panic c) (a.put t v) w -> Q (.panic c) a w) (hy : ∀ o : Oper,o.op = x -> ∀ w',S w' -> (execOp a.eval o).run P w' = .ok (Next.value v) w') (hS : S w)
  (h : wpAnyH P md ops Q S fuel (listed.setIfInBounds i true) (a.put t v) w) : wpAnyH P md ops Q S (fuel + 1) listed a w:=by
 obtain ⟨o,ho,rfl,rfl,hg⟩:=hi.get
 exact wpAnyH_take ho hs hf hr hQ (.inl ⟨by simp [Region.wanted,hg],fun w' hw' => hy o rfl w' hw'⟩) hS h
theorem tkT (i : Nat) (t : Option Tmp) (x : Op) (v : Value) (hy : ∀ o : Oper,o.op = x -> ∀ w',S w' -> (execOp a.eval o).run P w' = .ok (Next.value v) w') (hS : S w) (h : wpAnyH P md ops Q S fuel (listed.setIfInBounds i true) (a.put t v) w) (hi : opIs ops i t x:=by rfl) (hs : Region.noSelect ops = true:=by kernel_rfl) (hf : Region.free md ops listed i = true:=by kernel_rfl) (hr : (Region.ready md ops listed).contains i = true:=by kernel_rfl) (hQ : ∀ c a w,Q (.panic c) (a.put t v) w -> Q (.panic c) a w:=by exact fun _ _ _ h => h) : wpAnyH P md ops Q S (fuel + 1) listed a w:=takeT i t x v hi hs hf hr hQ hy hS h
theorem zck9 (i : Nat) (t : Option Tmp) (ty : TypeId) (y : Operand) (b off : Nat) (cs : List Value) (d : TypeDesc) (hi : opIs ops i t (.load ty y)) (hs : Region.noSelect ops = true) (hf : Region.free md ops listed i = true) (hr : (Region.ready md ops listed).contains i = true)
  (hQ : ∀ c a w,Q (.panic c) (a.put t (.agg cs.toArray)) w -> Q (.panic c) a w) (hx : a.eval y = .pointer (some ⟨b,off,none⟩)) (hc : ∀ w',S w' -> w'.rangeAt b off cs) (hu : P.underlying ty = some d) (hd : d.isRow = true) (hn : (P.info? ty).map (·.size) = some cs.length) (hS : S w)
  (h : wpAnyH P md ops Q S fuel (listed.setIfInBounds i true) (a.put t (.agg cs.toArray)) w) : wpAnyH P md ops Q S (fuel + 1) listed a w:=by
 obtain ⟨o,ho,rfl,h2,hg⟩:=hi.get
 exact wpAnyH_take ho hs hf hr hQ (yieldsIf_load_mid (by simp [Region.wanted,hg]) ty y h2 b off hx cs d hc hu hd hn) hS h
def StepT (P : Program) (md : Region.Mode) (ops : Array Oper) (Q : Exit -> Act -> World -> Prop) (S : World -> Prop) (fuel : Nat) (listed : Array Bool) (a : Act) (w : World) (i : Nat) (t : Option Tmp) (x : Op) : Prop:=
 ∀ (o : Oper) (K : Act -> World -> Prop),o.dst = t -> o.op = x -> o.guard = none -> (∀ a' w',S w' -> wpAnyH P md ops Q S fuel (listed.setIfInBounds i true) a' w' -> K a' w') -> Oper.wp P o a w K Q
theorem zit9 {i : Nat} {t : Option Tmp} {x : Op} (hi : opIs ops i t x) (h : StepT P md ops Q S fuel listed a w i t x) {rs : List Nat} (hs : AllReadyH P md ops Q S fuel listed a w rs) : AllReadyH P md ops Q S fuel listed a w (i :: rs):=by
 obtain ⟨o,ho,h1,h2,hg⟩:=hi.get
 refine AllReadyH.cons ho (fun K hK => ?_) hs
 rw [if_pos (by simp [Region.wanted,hg])]
 exact h o K h1 h2 hg (fun a' w' hS hW => hK.out a' w' hS (fun _ => hW))
theorem readyT (i : Nat) (t : Option Tmp) (x : Op) (hi : opIs ops i t x) (hr : Region.ready md ops listed = [i]) (h : StepT P md ops Q S fuel listed a w i t x) : wpAnyH P md ops Q S (fuel + 1) listed a w:=
 wpAnyH_ready hr (by simp) (zit9 hi h AllReadyH.nil)
theorem rdT (i : Nat) (t : Option Tmp) (x : Op) (h : StepT P md ops Q S fuel listed a w i t x) (hi : opIs ops i t x:=by rfl) (hr : Region.ready md ops listed = [i]:=by kernel_rfl) : wpAnyH P md ops Q S (fuel + 1) listed a w:=readyT i t x hi hr h
end
end Go.Proofs.YtjhccpijpffahaaGreat
namespace Go.Proofs.YtjhccpijpffahaaGreat
open Go.RowKit Ah
theorem zfk9 {fn : Func} {p : Tmp} {ty : TypeId} (h : fn.results = #[.cell p ty]) (tmps : Array Value) (P : Program) (w : World) :
  (results fn tmps).run P w = ((asAddr (tmps.getD p undef)).run P w).andThen fun a w₁ => (loadVar ty a).run P w₁:=by
 simp only [results,h]
 simp [Sem.run_bind,Result.andThen]
theorem zio9 {fn : Func} {p : Tmp} {ty : TypeId} (h : fn.results = #[.cell p ty]) (tmps : Array Value) (P : Program) (w : World) (b : Nat) (v : Value) (ha : tmps.getD p undef = .pointer (some ⟨b,0,none⟩))
  (hl : (loadVar ty ⟨b,0,none⟩).run P w = .ok v w) : (results fn tmps).run P w = .ok v w:=by
 rw [zfk9 h,ha]
 simp [asAddr,Result.andThen,hl]
structure FoR (w w' : World) (lo hi : Nat) (v u : Value) (ns : List Int) : Prop where
 own : OwnsI w' v ns
 pls : ∃ ps,ps.length = hi /\ OwnsI w' u ps /\ Pls ns ps
 ap : ∀ k,v.ownBlock = some k -> u.ownBlock ≠ some k
 heap : Heap ns ns.length
 mem : ∀ n,n ∈ ns ↔ (lo : Int) <= n /\ n < hi
 len : ns.length = hi - lo
 nv : ∀ k,v.ownBlock = some k -> w.heap.size <= k
 nu : ∀ k,u.ownBlock = some k -> w.heap.size <= k
 bl : Below w.heap.size w w'
theorem zfx9 (lo hi : Nat) (h : lo <= hi) (h2 : hi <= 65536) (w : World) :
  Calls Tryz.prog 67 #[.int .i64 lo,.int .i64 hi] w fun e w' => ∃ v u ns,e = .returned (.agg #[v,u]) /\ FoR w w' lo hi v u ns:=by
 obtain ⟨j0,hj,hy0,hy1,hy2⟩:=elem64.info
 obtain ⟨W0,hW0⟩:=exN (w.alloc (.cells #[.slice none 0 0,.slice none 0 0] 107))
 go_enter Tryz.func67,Tryz.ntmps67
 go_wp2_with (at_make; refine wpList_make_full _ rfl (.tmp 7) (.tmp 7) 56 rfl 0 3 j0 _ 1 Tryz.underlying56 hj hy0 hy1 .i64 .i64 _ _ hi rfl rfl rfl rfl (by rw [hy2]; omega) (by unfold maxLen; omega) (zn7 _) ?_)
 intro w2 ho2 hg2
 have b2 : Below W0.heap.size W0 w2:=(Below.refl _ _).grown hg2 (zn6 _) (fun k e => by cases e)
 obtain ⟨q,hq⟩:=exH w.heap.size
 have hs0 : W0.heap.size = q + 1:=by rw [<- hW0,<- hq.out]; simp
 have O2 : OwnsI w2 (.slice (some ⟨q + 1,0,none⟩) hi hi) (List.replicate hi 0):=by
  show w2.ownsRow _ _ _ _ _ _
  rw [toList_madeCells_one,hs0] at ho2
  simp only [List.length_replicate,List.map_replicate]
  exact ho2
 have hq2 : w2.heap[q]? = some (.cells #[.slice none 0 0,.slice none 0 0] 107 (0,0)):=by
  rw [b2.block q (by omega),<- hW0,<- hq.out]
  exact heap_alloc_new w _
 obtain ⟨b,hb⟩:=exH w2.heap.size
 have hqb : q + 1 < b:=by
  have:=O2.lt (q + 1) rfl
  rw [<- hb.out]
  exact this
 have F2 : Fr (w2.alloc (.cells #[.slice none 0 0,.slice (some ⟨q + 1,0,none⟩) hi hi] 107)) ⟨b,107,[],[]⟩ (.slice none 0 0) (.slice (some ⟨q + 1,0,none⟩) hi hi) hi []:=by
  refine ⟨?_,(show (107 : TypeId) ≠ 3 by decide),zda9 _ _ _,⟨List.replicate hi 0,by simp,O2.tch (S:=fun _ => False) ((Tch.refl _ w2).alloc _) (fun _ _ e => e),fun i hi => by simp at hi⟩,fun k hk => by cases hk⟩
  show (w2.alloc _).heap[b]? = _
  rw [<- hb.out]
  exact heap_alloc_new w2 _
 obtain ⟨W3,HW3⟩:=exH (w2.alloc (.cells #[.slice none 0 0,.slice (some ⟨q + 1,0,none⟩) hi hi] 107))
 rw [HW3.out] at F2
 have HF2 : Hid (Fr W3 ⟨b,107,[],[]⟩ (.slice none 0 0) (.slice (some ⟨q + 1,0,none⟩) hi hi) hi []):=F2
 have hq3 : Hid (W3.heap[q]? = some (.cells #[.slice none 0 0,.slice none 0 0] 107 (0,0))):=by
  rw [<- HW3.out]
  show (w2.alloc _).heap[q]? = _
  rw [Below.heap_alloc _ _ _ (by rw [hb.out]; omega)]
  exact hq2
 have hsz3 : Hid (W3.heap.size = b + 1):=by rw [<- HW3.out,<- hb.out]; exact (by simp : (w2.alloc _).heap.size = w2.heap.size + 1)
 have HB3 : Hid (Below q w W3):=by
  rw [<- HW3.out]
  have h1 : Below w.heap.size w W0:=by rw [<- hW0]; exact (Below.refl _ _).alloc (zn6 _) _
  have h2 : Below w.heap.size w w2:=h1.trans ⟨b2.os,b2.tape,b2.output,b2.size,fun k hk => b2.block k (by rw [hs0,<- hq.out]; omega)⟩
  rw [<- hq.out]
  exact h2.alloc (by have:=h2.size; omega) _
 rw [hs0,hq.out]
 clear ho2 hg2 hj hy0 hy1 hy2 b2 O2 hq2 F2 hs0 hW0
 go_wp2_with fail
 rw [HW3.out,hb.out]
 go_loopw [6] (fun i wr => ∃ (j : Nat) (v : Value) (ns : List Int),lo + j <= hi /\ i = .int .i64 ((lo + j : Nat) : Int) /\ Hid (Fr wr ⟨b,107,[],[]⟩ v (.slice (some ⟨q + 1,0,none⟩) hi hi) hi ns) /\ Hid (Heap ns ns.length) /\ Hid (∀ n,n ∈ ns ↔ (lo : Int) <= n /\ n < ((lo + j : Nat) : Int)) /\ Hid (ns.length = j) /\ Hid (∀ k,v.ownBlock = some k -> q + 1 < k) /\ Hid (Tch (fun k => q < k) W3 wr)) (fun i _ => hi - (intOf i).toNat)
 case atStart => exact ⟨0,.slice none 0 0,[],by omega,by first | rfl | simp,HF2,(fun a c h1 h2 => by simp at h2),(fun n => by simp),rfl,(fun k hk => by cases hk),Tch.refl _ _⟩
 case round =>
  obtain ⟨j,v,ns,hj,rfl,HF,HH,HM,HN,HV,HT⟩:=hrel
  by_cases hlt : lo + j < hi
  ·obtain ⟨t,ht⟩:=exH (lo + j)
   have HNM : Hid ((t : Int) ∉ ns):=fun e => by
    have:=(HM.out _).1 e
    have:=ht.out
    omega
   have hj9 : j <= 65536:=by omega
   rw [ht.out] at hlt ⊢
   go_wp2_with fail
   refine (zoc9 ⟨b,107,[],[]⟩ v _ hi ns t wr HF.out hlt HNM.out (by rw [HN.out]; omega) HH.out).mono ?_
   rintro e w4 ⟨rfl,v4,qs,hp4,hh4,hq4,hf4,ht4⟩
   have HF4 : Hid (Fr w4 ⟨b,107,[],[]⟩ v4 (.slice (some ⟨q + 1,0,none⟩) hi hi) hi qs):=hp4
   have HH4 : Hid (Heap qs qs.length):=hh4
   have HM4 : Hid (∀ n,n ∈ qs ↔ (lo : Int) <= n /\ n < ((lo + (j + 1) : Nat) : Int)):=fun n => by
    rw [hq4.mem_iff]
    have hmm:=HM.out n
    have htt:=ht.out
    simp only [List.mem_append,List.mem_cons,List.not_mem_nil,or_false,hmm]
    omega
   have HN4 : Hid (qs.length = j + 1):=by show _ = _; rw [hq4.length_eq]; simp [HN.out]
   have hsz:=HT.out.size
   have hs3:=hsz3.out
   have HV4 : Hid (∀ k,v4.ownBlock = some k -> q + 1 < k):=fun k hk => by
    rcases hf4 k hk with e | e
    ·exact HV.out k e
    ·omega
   have HT4 : Hid (Tch (fun k => q < k) W3 w4):=HT.out.trans ht4 (fun k _ e => by
    rcases e with e | e | e
    ·simp only at e; omega
    ·have:=HV.out k e; omega
    ·simp only [Value.ownBlock,Option.some.injEq] at e; omega)
   have he : ((t : Int)) + 1 = ((lo + (j + 1) : Nat) : Int):=by have:=ht.out; omega
   have HE : Hid (((t : Int)) + 1 = ((lo + (j + 1) : Nat) : Int)):=he
   clear hp4 hh4 hq4 hf4 ht4 hsz hs3 HF HH HM HN HV HT he
   go_wp2_with fail
   go_roundw
   case rel => exact ⟨j + 1,v4,qs,by have:=ht.out; omega,by rw [<- HE.out],HF4,HH4,HM4,HN4,HV4,HT4⟩
   case measure => simp [intOf]; omega
  ·have hjh : lo + j = hi:=by omega
   obtain ⟨a,cap,rfl⟩:=HF.out.len
   have HJ : Hid (lo + j = hi):=hjh
   have c0 : wr.cell? ⟨b,0,none⟩ = some (.slice a ns.length cap):=HF.out.c0
   have c1 : wr.cell? ⟨b,1,none⟩ = some (.slice (some ⟨q + 1,0,none⟩) hi hi):=HF.out.c1
   obtain ⟨m,hm⟩:=exH ns.length
   rw [hm.out] at c0
   have hqr : wr.heap[q]? = some (.cells #[.slice none 0 0,.slice none 0 0] 107 (0,0)):=by
    rw [HT.out.block q (by rw [hsz3.out]; omega) (by omega)]
    exact hq3.out
   have d0 : wr.cell? ⟨q,0,none⟩ = some (.slice none 0 0):=by rw [cell_of_row wr q 0 _ _ (0,0) hqr]; rfl
   have d1 : wr.cell? ⟨q,1,none⟩ = some (.slice none 0 0):=by rw [cell_of_row wr q 1 _ _ (0,0) hqr]; rfl
   have e0 : wr.frozen? ⟨q,0,none⟩ = false:=frozen_of_row wr q 0 _ _ hqr
   have e1 : wr.frozen? ⟨q,1,none⟩ = false:=frozen_of_row wr q 1 _ _ hqr
   have hqb' : q ≠ b:=by omega
   have HQR : Hid (wr.heap[q]? = some (.cells #[.slice none 0 0,.slice none 0 0] 107 (0,0))):=hqr
   rw [hjh]
   have hd : decide (hi < hi) = false:=by simp
   clear hqr hjh
   go_wp2_with fail
   have h1:=heap_setCell_same wr q 0 _ _ (.slice a m cap) HQR.out
   have h2:=heap_setCell_same _ q 1 _ _ (.slice (some ⟨q + 1,0,none⟩) hi hi) h1
   have hrange : ((wr.setCell ⟨q,0,none⟩ (.slice a m cap)).setCell ⟨q,1,none⟩ (.slice (some ⟨q + 1,0,none⟩) hi hi)).rangeAt q 0 [.slice a m cap,.slice (some ⟨q + 1,0,none⟩) hi hi]:=fun j u hu => by
    rw [Nat.zero_add,cell_of_row _ q j _ _ (0,0) h2]
    simpa using hu
   have hinf : (Tryz.prog.info? 107).map (·.size) = some 2:=by kernel_rfl
   have hld:=run_loadVar_mid (P:=Tryz.prog) _ q 0 107 _ _ hrange Tryz.underlying107 rfl hinf
   refine bodyPost_ret (v:=.agg #[.slice a m cap,.slice (some ⟨q + 1,0,none⟩) hi hi]) (zio9 (p:=4) (ty:=107) rfl _ _ _ q _ rfl hld) rfl ⟨_,_,ns,rfl,?_⟩
   have T5 : Tch (fun k => k = q) wr ((wr.setCell ⟨q,0,none⟩ (.slice a m cap)).setCell ⟨q,1,none⟩ (.slice (some ⟨q + 1,0,none⟩) hi hi)):=Tch.setCell (Tch.setCell (Tch.refl (fun k => k = q) wr) (p:=⟨q,0,none⟩) (fun _ => rfl) _) (p:=⟨q,1,none⟩) (fun _ => rfl) _
   obtain ⟨ps,p1,p2,p3⟩:=HF.out.pls
   have hv:=HV.out
   have ho:=HF.out.own
   have hap:=HF.out.ap
   rw [hm.out] at hv ho hap
   refine ⟨ho.tch T5 (fun k hk e => by have:=hv k hk; omega),⟨ps,p1,p2.tch T5 (fun k hk e => by simp only [Value.ownBlock,Option.some.injEq] at hk; omega),p3⟩,hap,HH.out,?_,?_,fun k hk => ?_,fun k hk => ?_,?_⟩
   ·have:=HM.out
    rw [HJ.out] at this
    exact this
   ·have h1:=HJ.out
    have h2:=HN.out
    omega
   ·have:=hv k hk
    have:=hq.out
    omega
   ·simp only [Value.ownBlock,Option.some.injEq] at hk
    have:=hq.out
    omega
   ·have hb1 : Below q w wr:=HB3.out.trans (HT.out.below (by rw [hsz3.out]; omega) (fun k e => by omega))
    have hb2 : Below q wr _:=T5.below (by have:=HT.out.size; rw [hsz3.out] at this; omega) (fun k e => by omega)
    rw [hq.out]
    exact hb1.trans hb2
def stn (lo hi j : Nat) : List Int:=List.replicate lo 0 ++ (List.replicate j 1 ++ List.replicate (hi - lo - j) 0)
theorem zhu9 (lo hi j : Nat) (h : lo + j <= hi) : (stn lo hi j).length = hi:=by simp [stn]; omega
theorem zlt9 (lo hi : Nat) (h : lo <= hi) : stn lo hi 0 = List.replicate hi 0:=by
 simp only [stn,List.replicate_zero,List.nil_append,Nat.sub_zero,List.replicate_append_replicate]
 congr 1
 omega
theorem zpe9 (lo hi : Nat) : stn lo hi (hi - lo) = sts lo (List.replicate (hi - lo) 0):=by
 simp [stn,sts]
theorem zls9 (lo hi j : Nat) (h : lo + j < hi) : (stn lo hi j).set (lo + j) 1 = stn lo hi (j + 1):=by
 obtain ⟨r,hr⟩ : ∃ r,hi - lo - j = r + 1:=⟨hi - lo - j - 1,by omega⟩
 have hr2 : hi - lo - (j + 1) = r:=by omega
 unfold stn
 rw [hr,hr2,List.set_append_right _ _ (by simp),List.set_append_right _ _ (by simp)]
 simp only [List.length_replicate,Nat.add_sub_cancel_left,Nat.sub_self,List.replicate_succ,List.set_cons_zero]
 rw [show (1 : Int) :: List.replicate j 1 = List.replicate j 1 ++ [1] from List.replicate_succ'.symm ▸ (by rw [<- List.replicate_succ,List.replicate_succ'])]
 simp
theorem new_ks {lo hi : Nat} {ns : List Int} (hm : ∀ n,n ∈ ns ↔ (lo : Int) <= n /\ n < hi) (hl : ns.length = hi - lo) (nd : ns.Nodup) (h : lo <= hi) : Ks 0 (new lo hi) ns:=by
 refine ⟨fun n => ?_,by rw [hl]; simp [new],nd⟩
 rw [hm]
 constructor
 ·intro e
  obtain ⟨i,rfl⟩ : ∃ i : Nat,n = ((lo + i : Nat) : Int):=⟨(n - lo).toNat,by omega⟩
  have:=stv_in (s:=new lo hi) (i:=i) (by simp [new]; omega)
  have e2 : ((new lo hi).lo + i) = lo + i:=rfl
  rw [e2] at this
  rw [this]
  simp only [new,G,zn3,List.getElem?_replicate]
  split <;> rfl
 ·intro e
  obtain ⟨i,hi',e2,_⟩:=zdz9 (s:=new lo hi) (n:=n) (by omega)
  simp only [new,List.length_replicate] at hi' e2
  omega
structure NwA (w W : World) (M g : Nat) (v u : Value) (lo hi : Nat) (ns : List Int) : Prop where
 fr : Fr W ⟨M,109,[.slice (some ⟨g,0,none⟩) hi hi],[.slice none 0 0,.int .i64 0]⟩ v u hi ns
 st : OwnsS W (.slice (some ⟨g,0,none⟩) hi hi) (List.replicate hi 0)
 heap : Heap ns ns.length
 mem : ∀ n,n ∈ ns ↔ (lo : Int) <= n /\ n < hi
 len : ns.length = hi - lo
 nM : w.heap.size <= M
 ng : w.heap.size <= g
 nv : ∀ k,v.ownBlock = some k -> w.heap.size <= k
 nu : ∀ k,u.ownBlock = some k -> w.heap.size <= k
 bl : Below w.heap.size w W
theorem zot9 {W W' : World} {C : Array Value} {hi : Nat} (hC : madeCells (Value.int .u8 0).cells hi = C) (h65 : hi <= 65536) (h : W'.heap[W.heap.size]? = some (.cells C 131 (0,0))) : OwnsS W' (.slice (some ⟨W.heap.size,0,none⟩) hi hi) (List.replicate hi 0):=by
 show W'.ownsRow _ _ _ _ _ _
 have hs : C.size = hi:=by rw [<- hC]; exact size_madeCells _ _
 refine ⟨by simp,.inr ⟨W.heap.size,hi,C,by simp,zn7 _,h,by simp,by unfold maxLen; omega,by simpa using hs,?_⟩⟩
 have e : C.toList = List.replicate hi (.int .u8 0):=by rw [<- hC]; exact toList_madeCells_one _ _
 rw [e]
 simp
theorem ztg9 (lo hi : Nat) (h : lo <= hi) (h2 : hi <= 65536) (w : World) :
  Calls Tryz.prog 35 #[.int .i64 lo,.int .i64 hi] w fun e w' => ∃ M,e = .returned (.tuple #[mp M,.int .i64 0]) /\ Pm w' M (new lo hi) (fun k => w.heap.size <= k /\ k < w'.heap.size) /\ Below w.heap.size w w':=by
 have t1 : decide (hi < lo) = false:=by simp; omega
 obtain ⟨j0,hj,hy0,hy1,hy2⟩ : ∃ i,Tryz.prog.info? 131 = some i /\ i.zero = some (.int .u8 0) /\ i.size = 1 /\ i.bytes = 1:=info_parts (z:=.int .u8 0) (size:=1) (bytes:=1) (by kernel_rfl)
 obtain ⟨C,hC⟩:=exH (madeCells (Value.int .u8 0).cells hi)
 have hmk : ∀ W : World,(Instr.makeSlice 105 (.int .i64 hi) (.int .i64 hi)).run Tryz.prog W = .ok (.slice (some ⟨W.heap.size,0,none⟩) hi hi) (W.alloc (.cells C 131)):=fun W => by
  have:=run_make (P:=Tryz.prog) W 105 131 j0 _ Tryz.underlying105 hj hy0 .i64 .i64 hi hi (by omega) (by omega) (by rw [hy2]; omega) (by omega)
  rw [hy1] at this
  simp only [Int.toNat_natCast,Nat.mul_one] at this
  rw [hC.out] at this
  exact this
 clear hj hy0 hy1 hy2
 go_enter Tryz.func35,Tryz.ntmps35
 go_wp2_with fail
 go_region_held3 (fun _ => True) (trivial)
  ((go_at_call 67; refine (zfx9 lo hi h h2 _).mono ?_; rintro e w2 ⟨v,u,ns,rfl,hFo⟩))
 ·obtain ⟨g,hg⟩:=exH w.heap.size
  obtain ⟨M,hM⟩:=exH w2.heap.size
  obtain ⟨W,HW⟩:=exH (w2.alloc (.cells #[.slice (some ⟨w.heap.size,0,none⟩) hi hi,v,u,.slice none 0 0,.int .i64 0] 109))
  have hNW : NwA w W M g v u lo hi ns:=by
   have hs1 : (w.alloc (.cells C 131)).drew.heap.size = w.heap.size + 1:=by show (w.alloc _).heap.size = _; simp
   have hb:=hFo.bl
   have hsz:=hb.size
   rw [hs1] at hsz
   have T : Tch (fun _ => False) w2 W:=by rw [<- HW.out]; exact (Tch.refl _ w2).alloc _
   have hgb : W.heap[w.heap.size]? = some (.cells C 131 (0,0)):=by
    rw [T.block _ (by omega) (fun e => e),hb.block _ (by rw [hs1]; omega)]
    exact heap_alloc_new w _
   have B0 : Below w.heap.size w (w.alloc (.cells C 131)).drew:=((Below.refl _ _).alloc (zn6 _) _).drew
   have B1 : Below w.heap.size w w2:=B0.trans ⟨hb.os,hb.tape,hb.output,hb.size,fun k hk => hb.block k (by rw [hs1]; omega)⟩
   obtain ⟨ps,p1,p2,p3⟩:=hFo.pls
   rw [<- hg.out,<- hM.out]
   refine ⟨⟨?_,(show (109 : TypeId) ≠ 3 by decide),hFo.own.tch T (fun _ _ e => e),⟨ps,p1,p2.tch T (fun _ _ e => e),p3⟩,hFo.ap⟩,zot9 hC.out h2 hgb,hFo.heap,hFo.mem,hFo.len,by omega,zn6 _,fun k hk => ?_,fun k hk => ?_,?_⟩
   ·rw [<- HW.out]; exact heap_alloc_new w2 _
   ·have:=hFo.nv k hk; omega
   ·have:=hFo.nu k hk; omega
   ·exact B1.trans (T.below B1.size (fun k e => e.elim))
  rw [HW.out,hM.out,hg.out]
  have HNW : Hid (NwA w W M g v u lo hi ns):=hNW
  clear hNW hFo hmk hC
  go_wp2_with fail
  go_loopw [7] (fun i wr => ∃ j : Nat,lo + j <= hi /\ i = .int .i64 ((lo + j : Nat) : Int) /\ Hid (OwnsS wr (.slice (some ⟨g,0,none⟩) hi hi) (stn lo hi j)) /\ Hid (Tch (fun k => k = g) W wr)) (fun i _ => hi - (intOf i).toNat)
  case atStart => exact ⟨0,by omega,by first | rfl | simp,(by rw [zlt9 lo hi h]; exact HNW.out.st),Tch.refl _ _⟩
  case round =>
   obtain ⟨j,hj,rfl,HO,HT⟩:=hrel
   have hgM : g ≠ M:=zav9 HNW.out.st HNW.out.fr.blk (show (109 : TypeId) ≠ 131 by decide) rfl
   by_cases hlt : lo + j < hi
   ·obtain ⟨g',cap',he,hg3,hcap3,_,hc3,fz3⟩:=HO.out.shape (by rw [zhu9 lo hi j hj]; omega)
    simp only [Value.slice.injEq,Option.some.injEq,Addr.mk.injEq,and_true] at he
    obtain ⟨rfl,hxx,rfl⟩:=he
    clear hxx
    have ct:=hc3 (lo + j) (by rw [zhu9 lo hi j hj]; exact hlt)
    have ft:=fz3 (lo + j)
    obtain ⟨y0,hy0⟩:=exH ((stn lo hi j).getD (lo + j) 0)
    rw [hy0.out] at ct
    have c0 : wr.cell? ⟨M,0,none⟩ = some (.slice (some ⟨g,0,none⟩) hi hi):=by
     rw [HT.out.cell (p:=⟨M,0,none⟩) HNW.out.fr.lt (fun e => hgM e.symm),cell_of_row W M 0 _ _ (0,0) HNW.out.fr.blk]; rfl
    obtain ⟨t,ht⟩:=exH (lo + j)
    have HO4 : Hid (OwnsS (wr.setCell ⟨g,t,none⟩ (.int .u8 1)) (.slice (some ⟨g,0,none⟩) hi hi) (stn lo hi (j + 1))):=by
     rw [<- zls9 lo hi j hlt,<- ht.out]
     exact HO.out.set (lo + j) 1
    have HT4 : Hid (Tch (fun k => k = g) W (wr.setCell ⟨g,t,none⟩ (.int .u8 1))):=Tch.setCell HT.out (p:=⟨g,t,none⟩) (fun _ => rfl) _
    rw [ht.out] at hlt ct ft ⊢
    have HE : Hid (((t : Int)) + 1 = ((lo + (j + 1) : Nat) : Int)):=by show _ = _; have:=ht.out; omega
    clear hg3 hcap3 hc3 fz3
    go_wp2_with fail
    go_roundw
    case rel => exact ⟨j + 1,by have:=ht.out; omega,by rw [<- HE.out],HO4,HT4⟩
    case measure => simp [intOf]; omega
   ·have hjh : lo + j = hi:=by omega
    have HJ : Hid (j = hi - lo):=by show _ = _; omega
    rw [hjh]
    have hd : decide (hi < hi) = false:=by simp
    clear hjh
    go_wp2_with fail
    go_ret2
    have F5 : Fr wr ⟨M,109,[.slice (some ⟨g,0,none⟩) hi hi],[.slice none 0 0,.int .i64 0]⟩ v u hi ns:=by
     have hF:=HNW.out.fr
     obtain ⟨ps,_,ho,_⟩:=hF.pls
     exact hF.tch HT.out (fun e => hgM e.symm) (fun k hk e => zx9 HNW.out.st hF.own (by decide) (k:=g) rfl (by rw [<- e]; exact hk)) (fun k hk e => zx9 HNW.out.st ho (by decide) (k:=g) rfl (by rw [<- e]; exact hk))
    have hlh : (new lo hi).lo + (new lo hi).L.length = hi:=by simp [new]; omega
    have O5:=HO.out
    rw [HJ.out,zpe9] at O5
    obtain ⟨ps,_,hpo,hpp⟩:=F5.pls
    refine ⟨M,rfl,⟨.slice (some ⟨g,0,none⟩) hi hi,v,u,.slice none 0 0,ns,[],⟨⟨?_,O5,HNW.out.heap,new_ks HNW.out.mem HNW.out.len hpp.nodup h,by rw [hlh]; exact h2⟩,zda9 _ _ _,⟨fun n => ⟨fun e => by simp at e,fun e => ?_⟩,by simp [new,List.count_replicate],by simp⟩,(fun k hk => by cases hk),(fun k hk => by cases hk),new_ok h h2⟩,fun k hk => ?_,fun k hk => hk.2⟩,?_⟩
    ·rw [hlh]; exact F5
    ·obtain ⟨i,hi',_,e3⟩:=zdz9 (s:=new lo hi) (n:=n) (by omega)
     have e4 : G (new lo hi).L i = 0:=by
      simp only [new,List.length_replicate] at hi'
      simp only [new,G,zn3,List.getElem?_replicate]
      split <;> rfl
     omega
    ·rcases hk with e | e | e | e | e
     ·subst e; exact ⟨HNW.out.nM,F5.lt⟩
     ·exact ⟨by cases e; exact HNW.out.ng,O5.lt k e⟩
     ·exact ⟨HNW.out.nv k e,F5.own.lt k e⟩
     ·exact ⟨HNW.out.nu k e,hpo.lt k e⟩
     ·cases e
    ·exact HNW.out.bl.trans (HT.out.below HNW.out.bl.size (fun k e => by rw [e]; exact HNW.out.ng))
 ·obtain ⟨g,hg⟩:=exH w2.heap.size
  obtain ⟨M,hM⟩:=exH (w2.heap.size + 1)
  obtain ⟨W,HW⟩:=exH ((w2.alloc (.cells C 131)).alloc (.cells #[.slice (some ⟨w2.heap.size,0,none⟩) hi hi,v,u,.slice none 0 0,.int .i64 0] 109))
  have hNW : NwA w W M g v u lo hi ns:=by
   have hb : Below w.heap.size w w2:=((Below.refl w.heap.size w).drew).trans hFo.bl
   have hsz:=hb.size
   have T : Tch (fun _ => False) w2 W:=by rw [<- HW.out]; exact ((Tch.refl _ w2).alloc _).alloc _
   have hs3 : (w2.alloc (.cells C 131)).heap.size = w2.heap.size + 1:=by simp
   have hgb : W.heap[w2.heap.size]? = some (.cells C 131 (0,0)):=by
    rw [<- HW.out,Below.heap_alloc _ _ _ (by rw [hs3]; omega)]
    exact heap_alloc_new w2 _
   obtain ⟨ps,p1,p2,p3⟩:=hFo.pls
   rw [<- hg.out,<- hM.out]
   refine ⟨⟨?_,(show (109 : TypeId) ≠ 3 by decide),hFo.own.tch T (fun _ _ e => e),⟨ps,p1,p2.tch T (fun _ _ e => e),p3⟩,hFo.ap⟩,zot9 hC.out h2 hgb,hFo.heap,hFo.mem,hFo.len,by omega,by omega,fun k hk => ?_,fun k hk => ?_,?_⟩
   ·show W.heap[w2.heap.size + 1]? = _
    rw [<- HW.out,<- hs3]; exact heap_alloc_new (w2.alloc (.cells C 131)) _
   ·exact hFo.nv k hk
   ·exact hFo.nu k hk
   ·exact hb.trans (T.below hb.size (fun k e => e.elim))
  rw [HW.out,hM.out,hg.out]
  have HNW : Hid (NwA w W M g v u lo hi ns):=hNW
  clear hNW hFo hmk hC
  go_wp2_with fail
  go_loopw [7] (fun i wr => ∃ j : Nat,lo + j <= hi /\ i = .int .i64 ((lo + j : Nat) : Int) /\ Hid (OwnsS wr (.slice (some ⟨g,0,none⟩) hi hi) (stn lo hi j)) /\ Hid (Tch (fun k => k = g) W wr)) (fun i _ => hi - (intOf i).toNat)
  case atStart => exact ⟨0,by omega,by first | rfl | simp,(by rw [zlt9 lo hi h]; exact HNW.out.st),Tch.refl _ _⟩
  case round =>
   obtain ⟨j,hj,rfl,HO,HT⟩:=hrel
   have hgM : g ≠ M:=zav9 HNW.out.st HNW.out.fr.blk (show (109 : TypeId) ≠ 131 by decide) rfl
   by_cases hlt : lo + j < hi
   ·obtain ⟨g',cap',he,hg3,hcap3,_,hc3,fz3⟩:=HO.out.shape (by rw [zhu9 lo hi j hj]; omega)
    simp only [Value.slice.injEq,Option.some.injEq,Addr.mk.injEq,and_true] at he
    obtain ⟨rfl,hxx,rfl⟩:=he
    clear hxx
    have ct:=hc3 (lo + j) (by rw [zhu9 lo hi j hj]; exact hlt)
    have ft:=fz3 (lo + j)
    obtain ⟨y0,hy0⟩:=exH ((stn lo hi j).getD (lo + j) 0)
    rw [hy0.out] at ct
    have c0 : wr.cell? ⟨M,0,none⟩ = some (.slice (some ⟨g,0,none⟩) hi hi):=by
     rw [HT.out.cell (p:=⟨M,0,none⟩) HNW.out.fr.lt (fun e => hgM e.symm),cell_of_row W M 0 _ _ (0,0) HNW.out.fr.blk]; rfl
    obtain ⟨t,ht⟩:=exH (lo + j)
    have HO4 : Hid (OwnsS (wr.setCell ⟨g,t,none⟩ (.int .u8 1)) (.slice (some ⟨g,0,none⟩) hi hi) (stn lo hi (j + 1))):=by
     rw [<- zls9 lo hi j hlt,<- ht.out]
     exact HO.out.set (lo + j) 1
    have HT4 : Hid (Tch (fun k => k = g) W (wr.setCell ⟨g,t,none⟩ (.int .u8 1))):=Tch.setCell HT.out (p:=⟨g,t,none⟩) (fun _ => rfl) _
    rw [ht.out] at hlt ct ft ⊢
    have HE : Hid (((t : Int)) + 1 = ((lo + (j + 1) : Nat) : Int)):=by show _ = _; have:=ht.out; omega
    clear hg3 hcap3 hc3 fz3
    go_wp2_with fail
    go_roundw
    case rel => exact ⟨j + 1,by have:=ht.out; omega,by rw [<- HE.out],HO4,HT4⟩
    case measure => simp [intOf]; omega
   ·have hjh : lo + j = hi:=by omega
    have HJ : Hid (j = hi - lo):=by show _ = _; omega
    rw [hjh]
    have hd : decide (hi < hi) = false:=by simp
    clear hjh
    go_wp2_with fail
    go_ret2
    have F5 : Fr wr ⟨M,109,[.slice (some ⟨g,0,none⟩) hi hi],[.slice none 0 0,.int .i64 0]⟩ v u hi ns:=by
     have hF:=HNW.out.fr
     obtain ⟨ps,_,ho,_⟩:=hF.pls
     exact hF.tch HT.out (fun e => hgM e.symm) (fun k hk e => zx9 HNW.out.st hF.own (by decide) (k:=g) rfl (by rw [<- e]; exact hk)) (fun k hk e => zx9 HNW.out.st ho (by decide) (k:=g) rfl (by rw [<- e]; exact hk))
    have hlh : (new lo hi).lo + (new lo hi).L.length = hi:=by simp [new]; omega
    have O5:=HO.out
    rw [HJ.out,zpe9] at O5
    obtain ⟨ps,_,hpo,hpp⟩:=F5.pls
    refine ⟨M,rfl,⟨.slice (some ⟨g,0,none⟩) hi hi,v,u,.slice none 0 0,ns,[],⟨⟨?_,O5,HNW.out.heap,new_ks HNW.out.mem HNW.out.len hpp.nodup h,by rw [hlh]; exact h2⟩,zda9 _ _ _,⟨fun n => ⟨fun e => by simp at e,fun e => ?_⟩,by simp [new,List.count_replicate],by simp⟩,(fun k hk => by cases hk),(fun k hk => by cases hk),new_ok h h2⟩,fun k hk => ?_,fun k hk => hk.2⟩,?_⟩
    ·rw [hlh]; exact F5
    ·obtain ⟨i,hi',_,e3⟩:=zdz9 (s:=new lo hi) (n:=n) (by omega)
     have e4 : G (new lo hi).L i = 0:=by
      simp only [new,List.length_replicate] at hi'
      simp only [new,G,zn3,List.getElem?_replicate]
      split <;> rfl
     omega
    ·rcases hk with e | e | e | e | e
     ·subst e; exact ⟨HNW.out.nM,F5.lt⟩
     ·exact ⟨by cases e; exact HNW.out.ng,O5.lt k e⟩
     ·exact ⟨HNW.out.nv k e,F5.own.lt k e⟩
     ·exact ⟨HNW.out.nu k e,hpo.lt k e⟩
     ·cases e
    ·exact HNW.out.bl.trans (HT.out.below HNW.out.bl.size (fun k e => by rw [e]; exact HNW.out.ng))
end Go.Proofs.YtjhccpijpffahaaGreat
