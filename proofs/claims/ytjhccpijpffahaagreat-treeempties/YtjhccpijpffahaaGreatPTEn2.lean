import Derived.Test.YtjhccpijpffahaaGreatPTBeg
import Derived.Laws.AppendOwnNone
import Derived.Test.YtjhccpijpffahaaGreatPTMem
set_option maxRecDepth 100000
set_option linter.unusedVariables false
set_option linter.unusedSimpArgs false
set_option maxHeartbeats 8000000
namespace Go.Proofs.YtjhccpijpffahaaGreat
open Go.RowKit Pl
theorem zgf9 {w : World} {a : Option Addr} {cap l : Nat} {ps : List E2} (h : RdE w (.slice a l cap) ps) (k : Nat) (hk : k <= ps.length) : RdE w (sliced a k l cap 2) (ps.drop k):=by
 obtain ⟨a',cap',e,h1,h2,h3,h4⟩:=h
 cases e
 have el : (ps.drop k).length = ps.length - k:=List.length_drop
 unfold sliced
 by_cases hz : ps.length - k = 0
 ·have hnil : ps.drop k = []:=List.eq_nil_of_length_eq_zero (by omega)
  rw [hnil,hz]
  refine ⟨_,cap - k,rfl,zn7 _,by omega,fun e => ?_,.inl rfl⟩
  by_cases c : cap = k
  ·omega
  ·rw [if_neg c] at e
   have : a = none:=by simpa using e
   have:=h3 this
   omega
 ·rcases h4 with rfl | ⟨b,o,rfl,hc⟩
  ·simp at hz
  ·rw [if_neg (by omega)]
   refine ⟨_,cap - k,by rw [el],by omega,by omega,fun e => (by cases e),.inr ⟨b,o + k * 2,by simp [Addr.add],fun i hi => ?_⟩⟩
   rw [el] at hi
   have:=hc (k + i) (by omega)
   have e1 : (ps.drop k).getD i eZ = ps.getD (k + i) eZ:=by rw [zn3,List.getElem?_drop,<- zn3]
   rw [e1,show o + k * 2 + i * 2 = o + (k + i) * 2 by omega]
   exact this
theorem sizeE (w : World) : (sizeOf (Tryz.prog.elem 35)).run Tryz.prog w = .ok 2 w:=by
 have h : (Tryz.prog.info? (Tryz.prog.elem 35)).map (·.size) = some 2:=by kernel_rfl
 obtain ⟨i,hi,hs⟩:=Option.map_eq_some_iff.1 h
 simp [sizeOf,typeInfo,hi,hs]
theorem underE : Tryz.prog.underlying 35 = some (.slice (Tryz.prog.elem 35)):=by
 have : Tryz.prog.elem 35 = 72:=by kernel_rfl
 rw [this]
 exact Tryz.underlying35
theorem fromE (b : Option Addr) (L cap p : Nat) (h1 : p <= L) (h2 : L <= cap) (w : World) : (Instr.sliceAt 35 (.slice b L cap) (some (.int .i64 (p : Int))) none none).run Tryz.prog w = .ok (sliced b p L cap 2) w:=by
 rw [run_sliceAt_slice _ _ _ _ _ _ underE,run_slice_l _ _ _ _ _ underE _ _ (by omega) (by omega),sizeE]
 simp [Result.andThen]
section
variable {ops : Array Oper} {rest : List Oper} {o : Oper} {a : Act} {Q : Exit -> Act -> World -> Prop}
theorem zbs9 (w : World) (hgd : o.guard = none) (s x : Operand) (ho : o.op = .call { callee:=.builtin .append,args:=#[s,x],argTypes:=#[35,35] })
  (B : Nat) (v : Value) (ps : List En) (hs : a.eval s = v) (hown : OwE B w v ps) (u : Value) (qs : List En) (hx : a.eval x = u) (hu : RdE w u qs) (hl : ps.length + qs.length <= 1000000000) (hB : B <= w.heap.size)
  (h : ∀ v' w',OwE B w' v' (ps ++ qs) -> Tch (fun k => v.ownBlock = some k) w w' -> wpList Tryz.prog ops Q rest (a.put o.dst v') w') : wpList Tryz.prog ops Q (o :: rest) a w:=by
 obtain ⟨i0,hi,hz0,hz1,hz2⟩:=info_parts infoE
 obtain ⟨ua,cap,rfl,h1,h2,h3,h4⟩:=hu
 cases ua with
 | some ad =>
  refine wpList_append_own_at w hgd s x 35 ho B 72 i0 _ 2 32 Tryz.underlying35 hi hz0 hz1 hz2 rfl (by decide) v ps.length (ecells ps) hs hown ad qs.length cap (ecells qs) hx (zch9 qs) ?_ (fun u hu => ?_) (by unfold maxLen; omega) (by omega) hB ?_
  ·intro j u hj
   have hjl:=(List.getElem?_eq_some_iff.1 hj).1
   rw [zch9] at hjl
   rcases h4 with rfl | ⟨b,off,e,hc⟩
   ·simp at hjl
   ·cases e
    rw [Addr.add_lit]
    rcases Nat.mod_two_eq_zero_or_one j with m | m
    ·obtain ⟨q,rfl⟩ : ∃ q,j = q * 2:=⟨j / 2,by omega⟩
     rw [(zct9 qs q (by omega)).1] at hj
     cases hj
     exact (hc q (by omega)).1
    ·obtain ⟨q,rfl⟩ : ∃ q,j = q * 2 + 1:=⟨j / 2,by omega⟩
     rw [(zct9 qs q (by omega)).2] at hj
     cases hj
     exact (hc q (by omega)).2
  ·simp only [ecells,List.mem_flatMap,List.mem_cons,List.not_mem_nil,or_false] at hu
   obtain ⟨p,_,rfl | rfl⟩:=hu <;> rfl
  ·intro v' w' q1 q2 q3 q4
   refine h v' w' ?_ (Tch.of_grown q2)
   unfold OwE
   rw [zcg9,List.length_append]
   exact q1
 | none =>
  have hq : qs = []:=by
   rcases h4 with e | ⟨b,off,e,_⟩
   ·exact e
   ·cases e
  subst hq
  have hc:=h3 rfl
  subst hc
  exact wpList_append_own_none hgd s x 35 ho B 72 i0 2 Tryz.underlying35 hi v ps.length (ecells ps) hs hown hx (h v w (by rw [List.append_nil]; exact hown) (Tch.refl _ _))
end
theorem zpi9 {ps : List E2} (h : Up ps) {k : Nat} (hk : k < ps.length) : ∀ e ∈ ps.drop (k + 1),Kl (ps.getD k eZ).1 e.1:=fun e he => by
 obtain ⟨i,hi,rfl⟩:=List.getElem_of_mem he
 rw [List.length_drop] at hi
 have:=List.pairwise_iff_getElem.1 h k (k + 1 + i) hk (by omega) (by omega)
 rw [zn3,List.getElem?_eq_getElem hk,List.getElem_drop]
 exact this
theorem zpg9 {ps : List E2} {key : ByteArray} {k : Nat} (h : ∀ i,i < k -> Kl (ps.getD i eZ).1 key) : ∀ e ∈ ps.take k,Kl e.1 key:=fun e he => by
 obtain ⟨i,hi,rfl⟩:=List.getElem_of_mem he
 rw [List.length_take] at hi
 have:=h i (by omega)
 rw [zn3,List.getElem?_eq_getElem (by omega)] at this
 rw [List.getElem_take]
 exact this
theorem zoo9 {ps : List E2} (h : Up ps) {key : ByteArray} (val : ByteArray) {k : Nat} (h1 : ∀ i,i < k -> Kl (ps.getD i eZ).1 key) :
  (k < ps.length -> (ps.getD k eZ).1 = key -> insE key val ps = ps.take k ++ ([(key,val)] ++ ps.drop (k + 1))) /\ ((k < ps.length -> Kl key (ps.getD k eZ).1) -> insE key val ps = ps.take k ++ ([(key,val)] ++ ps.drop k)):=by
 refine ⟨fun hk he => ?_,fun hk => ?_⟩
 ·have e0 : ps = ps.take k ++ ([ps.getD k eZ] ++ ps.drop (k + 1)):=by
   rw [<- List.append_assoc,<- zfs9 ps hk,List.take_append_drop]
  conv => lhs; rw [e0]
  rw [zcx9 val (zpg9 h1) (fun e hm => by have:=zpi9 h hk e hm; rw [he] at this; exact this)]
  rw [show ps.getD k eZ = (key,(ps.getD k eZ).2) from by rw [<- he],zkh9]
 ·have hd : ∀ e ∈ ps.drop k,Kl key e.1:=fun e hm => by
   by_cases c : k < ps.length
   ·have e1 : ps.drop k = ps.getD k eZ :: ps.drop (k + 1):=by
     rw [zn3,List.getElem?_eq_getElem c]; simp
    rw [e1] at hm
    rcases List.mem_cons.1 hm with q | q
    ·rw [q]; exact hk c
    ·exact (hk c).trans (zpi9 h c e q)
   ·rw [List.drop_of_length_le (by omega)] at hm; cases hm
  have e0 : ps = ps.take k ++ ([] ++ ps.drop k):=by rw [List.nil_append,List.take_append_drop]
  conv => lhs; rw [e0]
  rw [zcx9 val (zpg9 h1) hd,zkg9]
theorem zin9 (v : Value) (ps : List E2) (key val : ByteArray) (w : World) (h : RdE w v ps) (hup : Up ps) (hll : ps.length <= 1000000) :
  Calls Tryz.prog 32 #[v,.string key,.string val] w fun e w' => ∃ v',e = .returned v' /\ OwE w.heap.size w' v' (insE key val ps) /\ Below w.heap.size w w':=by
 obtain ⟨la,lc,rfl,l1,l2,l3⟩:=h.len
 have H:=hideN h
 obtain ⟨L,hL⟩:=exH ps.length
 rw [hL.out] at H l1 hll ⊢
 obtain ⟨R,hR⟩:=exH (insE key val ps)
 rw [hR.out]
 have HUP:=hideN hup
 have hL63 : (L : Int) <= 9223372036854775807:=by omega
 clear h l3 hup
 go_enter Tryz.func32,Tryz.ntmps32
 go_wp2_with fail
 go_loopw [7,8] (fun ov iv wr => ∃ (k : Nat) (va : Option Addr) (vn vc : Nat),k <= L /\ ov = .slice va vn vc /\ iv = .int .i64 (k : Int) /\ Hid (OwE w.heap.size wr (.slice va vn vc) (ps.take k) /\ Below w.heap.size w wr /\ ∀ i,i < k -> Kl (ps.getD i eZ).1 key)) (fun _ iv _ => L - (intOf iv).toNat)
 case atStart => exact ⟨0,none,0,0,zn7 _,rfl,rfl,owE_nil _ _,Below.refl _ _,fun i hi => by omega⟩
 case round =>
  obtain ⟨k,va,vn,vc,hk,rfl,rfl,HI⟩:=hrel
  by_cases h1 : k < L
  ·have d1 : decide ((k : Int) < (L : Int)) = true:=by rw [decide_eq_true_iff]; omega
   have d1' : decide (k < L) = true:=decide_eq_true h1
   obtain ⟨lb,lo,rfl,ck,cv⟩:=(H.out.below HI.out.2.1).at (i:=k) (by rw [hL.out]; exact h1)
   obtain ⟨x,hx⟩:=exH ((ps.getD k eZ).1)
   obtain ⟨y,hy⟩:=exH ((ps.getD k eZ).2)
   rw [hx.out] at ck
   rw [hy.out] at cv
   have i0 : (0 : Int) <= (k : Int):=by omega
   have i1 : (k : Int) < (L : Int):=by omega
   have v1:=wk_nat (x:=(k : Int) + 1) (t:=k + 1) (by omega) (by omega)
   have v2:=zs9 (x:=(k : Int) + 1) (t:=k + 1) (by clear v1; omega) (by clear v1; omega)
   have HK : Hid (k < L):=h1
   cases q : lts x key with
   | true =>
    have q' : Op.bytesLess x.toList key.toList = true:=q
    obtain ⟨W4,hW4⟩:=exN (wr.alloc (.cells #[.string x,.string y] 72))
    have b4 : Below wr.heap.size wr W4:=by rw [<- hW4]; exact za9 _ _
    have bx4 : W4.heap[wr.heap.size]? = some (.cells #[.string x,.string y] 72 (0,0)):=by rw [<- hW4]; exact heap_alloc_new wr _
    have HC0 : Hid (W4.cell? ⟨wr.heap.size,0,none⟩ = some (.string x)):=by show _ = _; rw [cell_of_row W4 wr.heap.size 0 _ _ (0,0) bx4]; rfl
    have HC1 : Hid (W4.cell? ⟨wr.heap.size,1,none⟩ = some (.string y)):=by show _ = _; rw [cell_of_row W4 wr.heap.size 1 _ _ (0,0) bx4]; rfl
    have HO4:=hideN (HI.out.1.below b4)
    have HB4 : Hid (Below w.heap.size w W4):=HI.out.2.1.trans (b4.mono HI.out.2.1.size)
    have HNN : Hid ((ps.take k).length <= 1000000000):=by show _ <= _; rw [List.length_take]; have:=hL.out; omega
    have HLT : Hid (∀ i,i < k + 1 -> Kl (ps.getD i eZ).1 key):=fun i hi => by
     by_cases e : i = k
     ·rw [e,hx.out]; exact q
     ·exact HI.out.2.2 i (by omega)
    have HTK : Hid (ps.take (k + 1) = ps.take k ++ [(x,y)]):=by show _ = _; rw [zfs9 ps (by rw [hL.out]; exact h1),<- hx.out,<- hy.out]
    clear b4 bx4 q
    go_wp2_with (at_builtin; refine zaw9 W4 rfl (.tmp 22) (.tmp 27) rfl w.heap.size (.slice va vn vc) (ps.take k) rfl HO4.out wr.heap.size (x,y) rfl HC0.out HC1.out HNN.out HB4.out.size ?_)
    rintro v' W5 o5 t5 f5
    have HI5 : Hid (OwE w.heap.size W5 v' (ps.take (k + 1)) /\ Below w.heap.size w W5 /\ ∀ i,i < k + 1 -> Kl (ps.getD i eZ).1 key):=⟨by rw [HTK.out]; exact o5,HB4.out.trans (t5.below HB4.out.size (fun j hj => HO4.out.ge j hj)),HLT.out⟩
    obtain ⟨va5,vc5,rfl⟩:=o5.long
    obtain ⟨vn5,hvn5⟩:=exN ((ps.take k ++ [(x,y)]).length)
    rw [hvn5] at HI5 ⊢
    clear o5 t5 f5 hvn5 hW4
    go_wp2_with fail
    clear v1 v2
    have hk2:=HK.out
    first
     | exact ⟨⟨k + 1,_,_,_,by omega,by rfl,by rfl,HI5⟩,by simp [intOf]; omega⟩
     | (go_roundw
        case rel => exact ⟨k + 1,_,_,_,by omega,by rfl,by rfl,HI5⟩
        case measure => simp [intOf]; omega)
   | false =>
    have q' : Op.bytesLess x.toList key.toList = false:=q
    have HAT:=hideN (zoo9 HUP.out val HI.out.2.2)
    cases q2 : eqs x key with
    | true =>
     have q2' : (x.toList == key.toList) = true:=q2
     have HR : Hid (R = ps.take k ++ ([(key,val)] ++ ps.drop (k + 1))):=by show _ = _; rw [<- hR.out]; exact HAT.out.1 (by rw [hL.out]; exact h1) (by rw [hx.out]; exact eqsP.1 q2)
     clear q q2 HAT
     obtain ⟨W4,hW4⟩:=exN (wr.alloc (.cells #[.string key,.string val] 72))
     have b4 : Below wr.heap.size wr W4:=by rw [<- hW4]; exact za9 _ _
     have bx4 : W4.heap[wr.heap.size]? = some (.cells #[.string key,.string val] 72 (0,0)):=by rw [<- hW4]; exact heap_alloc_new wr _
     have HC0 : Hid (W4.cell? ⟨wr.heap.size,0,none⟩ = some (.string key)):=by show _ = _; rw [cell_of_row W4 wr.heap.size 0 _ _ (0,0) bx4]; rfl
     have HC1 : Hid (W4.cell? ⟨wr.heap.size,1,none⟩ = some (.string val)):=by show _ = _; rw [cell_of_row W4 wr.heap.size 1 _ _ (0,0) bx4]; rfl
     have HO4:=hideN (HI.out.1.below b4)
     have HB4 : Hid (Below w.heap.size w W4):=HI.out.2.1.trans (b4.mono HI.out.2.1.size)
     have HNN : Hid ((ps.take k).length <= 1000000000):=by show _ <= _; rw [List.length_take]; have:=hL.out; omega
     clear b4 bx4
     go_wp2_with (at_builtin; refine zaw9 W4 rfl (.tmp 31) (.tmp 35) rfl w.heap.size (.slice va vn vc) (ps.take k) rfl HO4.out wr.heap.size (key,val) rfl HC0.out HC1.out HNN.out HB4.out.size ?_)
     rintro v' W5 o5 t5 f5
     have b5 : Below w.heap.size w W5:=HB4.out.trans (t5.below HB4.out.size (fun j hj => HO4.out.ge j hj))
     have HO5:=hideN o5
     obtain ⟨va5,vc5,rfl⟩:=o5.long
     obtain ⟨vn5,hvn5⟩:=exN ((ps.take k ++ [(key,val)]).length)
     rw [hvn5] at HO5 ⊢
     have HB5:=hideN b5
     have hsl : ∀ W,(Instr.sliceAt 35 (.slice (some ⟨lb,lo,none⟩) L lc) (some (.int .i64 ((k : Int) + 1))) none none).run Tryz.prog W = .ok (sliced (some ⟨lb,lo,none⟩) (k + 1) L lc 2) W:=fun W => fromE (some ⟨lb,lo,none⟩) L lc (k + 1) (by omega) l1 W
     obtain ⟨lb5,lo5,e5,ck5,cv5⟩:=(H.out.below b5).at (i:=k) (by rw [hL.out]; exact HK.out)
     cases e5
     rw [hx.out] at ck5
     have hrs:=zgf9 (H.out.below b5) (k + 1) (by have:=hL.out; omega)
     obtain ⟨ua,un,uc,hu⟩ : ∃ a l c,sliced (some ⟨lb,lo,none⟩) (k + 1) L lc 2 = .slice a l c:=⟨_,_,_,rfl⟩
     rw [hu] at hrs
     simp only [hu] at hsl
     have HRS:=hideN hrs
     have HN2 : Hid ((ps.take k ++ [(key,val)]).length + (ps.drop (k + 1)).length <= 1000000000):=by
      show _ <= _
      rw [List.length_append,List.length_take,List.length_drop]
      have:=hL.out
      simp
      omega
     clear o5 t5 f5 b5 hvn5 hW4 hrs hu
     go_wp2_with (at_builtin; refine zbs9 W5 rfl (.tmp 52) (.tmp 55) rfl w.heap.size (.slice va5 vn5 vc5) (ps.take k ++ [(key,val)]) rfl HO5.out (.slice ua un uc) (ps.drop (k + 1)) rfl HRS.out HN2.out HB5.out.size ?_)
     rintro v6 W6 o6 t6
     have HB6 : Hid (Below w.heap.size w W6):=HB5.out.trans (t6.below HB5.out.size (fun j hj => HO5.out.ge j hj))
     have HO6 : Hid (OwE w.heap.size W6 v6 R):=by
      show OwE _ _ _ _
      rw [HR.out]
      simp only [List.append_assoc,List.cons_append,List.nil_append] at o6 ⊢
      exact o6
     clear t6
     obtain ⟨va6,vc6,rfl⟩:=o6.long
     clear o6
     go_wp2_with fail
     go_ret
     exact ⟨_,rfl,HO6.out,HB6.out⟩
    | false =>
     have q2' : (x.toList == key.toList) = false:=q2
     have HR : Hid (R = ps.take k ++ ([(key,val)] ++ ps.drop k)):=by
      show _ = _
      rw [<- hR.out]
      refine HAT.out.2 (fun _ => ?_)
      rw [hx.out]
      rcases k_tri x key with t | t | t
      ·rw [show lts x key = true from t] at q; cases q
      ·rw [eqsP.2 t] at q2; cases q2
      ·exact t
     clear q q2 HAT
     obtain ⟨W4,hW4⟩:=exN (wr.alloc (.cells #[.string key,.string val] 72))
     have b4 : Below wr.heap.size wr W4:=by rw [<- hW4]; exact za9 _ _
     have bx4 : W4.heap[wr.heap.size]? = some (.cells #[.string key,.string val] 72 (0,0)):=by rw [<- hW4]; exact heap_alloc_new wr _
     have HC0 : Hid (W4.cell? ⟨wr.heap.size,0,none⟩ = some (.string key)):=by show _ = _; rw [cell_of_row W4 wr.heap.size 0 _ _ (0,0) bx4]; rfl
     have HC1 : Hid (W4.cell? ⟨wr.heap.size,1,none⟩ = some (.string val)):=by show _ = _; rw [cell_of_row W4 wr.heap.size 1 _ _ (0,0) bx4]; rfl
     have HO4:=hideN (HI.out.1.below b4)
     have HB4 : Hid (Below w.heap.size w W4):=HI.out.2.1.trans (b4.mono HI.out.2.1.size)
     have HNN : Hid ((ps.take k).length <= 1000000000):=by show _ <= _; rw [List.length_take]; have:=hL.out; omega
     clear b4 bx4
     go_wp2_with (at_builtin; refine zaw9 W4 rfl (.tmp 31) (.tmp 35) rfl w.heap.size (.slice va vn vc) (ps.take k) rfl HO4.out wr.heap.size (key,val) rfl HC0.out HC1.out HNN.out HB4.out.size ?_)
     rintro v' W5 o5 t5 f5
     have b5 : Below w.heap.size w W5:=HB4.out.trans (t5.below HB4.out.size (fun j hj => HO4.out.ge j hj))
     have HO5:=hideN o5
     obtain ⟨va5,vc5,rfl⟩:=o5.long
     obtain ⟨vn5,hvn5⟩:=exN ((ps.take k ++ [(key,val)]).length)
     rw [hvn5] at HO5 ⊢
     have HB5:=hideN b5
     have hsl : ∀ W,(Instr.sliceAt 35 (.slice (some ⟨lb,lo,none⟩) L lc) (some (.int .i64 ((k : Int)))) none none).run Tryz.prog W = .ok (sliced (some ⟨lb,lo,none⟩) (k) L lc 2) W:=fun W => fromE (some ⟨lb,lo,none⟩) L lc (k) (by omega) l1 W
     obtain ⟨lb5,lo5,e5,ck5,cv5⟩:=(H.out.below b5).at (i:=k) (by rw [hL.out]; exact HK.out)
     cases e5
     rw [hx.out] at ck5
     have hrs:=zgf9 (H.out.below b5) (k) (by have:=hL.out; omega)
     obtain ⟨ua,un,uc,hu⟩ : ∃ a l c,sliced (some ⟨lb,lo,none⟩) (k) L lc 2 = .slice a l c:=⟨_,_,_,rfl⟩
     rw [hu] at hrs
     simp only [hu] at hsl
     have HRS:=hideN hrs
     have HN2 : Hid ((ps.take k ++ [(key,val)]).length + (ps.drop (k)).length <= 1000000000):=by
      show _ <= _
      rw [List.length_append,List.length_take,List.length_drop]
      have:=hL.out
      simp
      omega
     clear o5 t5 f5 b5 hvn5 hW4 hrs hu
     go_wp2_with (at_builtin; refine zbs9 W5 rfl (.tmp 52) (.tmp 55) rfl w.heap.size (.slice va5 vn5 vc5) (ps.take k ++ [(key,val)]) rfl HO5.out (.slice ua un uc) (ps.drop (k)) rfl HRS.out HN2.out HB5.out.size ?_)
     rintro v6 W6 o6 t6
     have HB6 : Hid (Below w.heap.size w W6):=HB5.out.trans (t6.below HB5.out.size (fun j hj => HO5.out.ge j hj))
     have HO6 : Hid (OwE w.heap.size W6 v6 R):=by
      show OwE _ _ _ _
      rw [HR.out]
      simp only [List.append_assoc,List.cons_append,List.nil_append] at o6 ⊢
      exact o6
     clear t6
     obtain ⟨va6,vc6,rfl⟩:=o6.long
     clear o6
     go_wp2_with fail
     go_ret
     exact ⟨_,rfl,HO6.out,HB6.out⟩
  ·have d1 : decide ((k : Int) < (L : Int)) = false:=by rw [zn4]; omega
   have d1' : decide (k < L) = false:=decide_eq_false h1
   have HR : Hid (R = ps.take k ++ ([(key,val)] ++ ps.drop k)):=by show _ = _; rw [<- hR.out]; exact (zoo9 HUP.out val HI.out.2.2).2 (fun e => by rw [hL.out] at e; exact absurd e h1)
   obtain ⟨W4,hW4⟩:=exN (wr.alloc (.cells #[.string key,.string val] 72))
   have b4 : Below wr.heap.size wr W4:=by rw [<- hW4]; exact za9 _ _
   have bx4 : W4.heap[wr.heap.size]? = some (.cells #[.string key,.string val] 72 (0,0)):=by rw [<- hW4]; exact heap_alloc_new wr _
   have HC0 : Hid (W4.cell? ⟨wr.heap.size,0,none⟩ = some (.string key)):=by show _ = _; rw [cell_of_row W4 wr.heap.size 0 _ _ (0,0) bx4]; rfl
   have HC1 : Hid (W4.cell? ⟨wr.heap.size,1,none⟩ = some (.string val)):=by show _ = _; rw [cell_of_row W4 wr.heap.size 1 _ _ (0,0) bx4]; rfl
   have HO4:=hideN (HI.out.1.below b4)
   have HB4 : Hid (Below w.heap.size w W4):=HI.out.2.1.trans (b4.mono HI.out.2.1.size)
   have HNN : Hid ((ps.take k).length <= 1000000000):=by show _ <= _; rw [List.length_take]; have:=hL.out; omega
   clear b4 bx4
   go_wp2_with (at_builtin; refine zaw9 W4 rfl (.tmp 31) (.tmp 35) rfl w.heap.size (.slice va vn vc) (ps.take k) rfl HO4.out wr.heap.size (key,val) rfl HC0.out HC1.out HNN.out HB4.out.size ?_)
   rintro v' W5 o5 t5 f5
   have b5 : Below w.heap.size w W5:=HB4.out.trans (t5.below HB4.out.size (fun j hj => HO4.out.ge j hj))
   have HO5:=hideN o5
   obtain ⟨va5,vc5,rfl⟩:=o5.long
   obtain ⟨vn5,hvn5⟩:=exN ((ps.take k ++ [(key,val)]).length)
   rw [hvn5] at HO5 ⊢
   have HB5:=hideN b5
   have hsl : ∀ W,(Instr.sliceAt 35 (.slice la L lc) (some (.int .i64 ((k : Int)))) none none).run Tryz.prog W = .ok (sliced la (k) L lc 2) W:=fun W => fromE la L lc (k) (by omega) l1 W
   have hrs:=zgf9 (H.out.below b5) (k) (by have:=hL.out; omega)
   obtain ⟨ua,un,uc,hu⟩ : ∃ a l c,sliced la (k) L lc 2 = .slice a l c:=⟨_,_,_,rfl⟩
   rw [hu] at hrs
   simp only [hu] at hsl
   have HRS:=hideN hrs
   have HN2 : Hid ((ps.take k ++ [(key,val)]).length + (ps.drop (k)).length <= 1000000000):=by
    show _ <= _
    rw [List.length_append,List.length_take,List.length_drop]
    have:=hL.out
    simp
    omega
   clear o5 t5 f5 b5 hvn5 hW4 hrs hu
   go_wp2_with (at_builtin; refine zbs9 W5 rfl (.tmp 52) (.tmp 55) rfl w.heap.size (.slice va5 vn5 vc5) (ps.take k ++ [(key,val)]) rfl HO5.out (.slice ua un uc) (ps.drop (k)) rfl HRS.out HN2.out HB5.out.size ?_)
   rintro v6 W6 o6 t6
   have HB6 : Hid (Below w.heap.size w W6):=HB5.out.trans (t6.below HB5.out.size (fun j hj => HO5.out.ge j hj))
   have HO6 : Hid (OwE w.heap.size W6 v6 R):=by
    show OwE _ _ _ _
    rw [HR.out]
    simp only [List.append_assoc,List.cons_append,List.nil_append] at o6 ⊢
    exact o6
   clear t6
   obtain ⟨va6,vc6,rfl⟩:=o6.long
   clear o6
   go_wp2_with fail
   go_ret
   exact ⟨_,rfl,HO6.out,HB6.out⟩
end Go.Proofs.YtjhccpijpffahaaGreat
namespace Go.Proofs.YtjhccpijpffahaaGreat
open Go.RowKit Go.Maps Pl
theorem zre9 {a : AS} {c lev : Nat} {x : Int} {L : List E2} {B : List Int} (h : All a c lev x L B) (m : Amp a) : 0 <= x /\ x <= 65535:=by
 have ht:=h.tr
 cases lev with
 | zero => rw [ht.1]; decide
 | succ k =>
  obtain ⟨a0,a00,n,B1,a1,a2,a3,a4,a5,rfl⟩:=ht
  have:=zew9 (s:=a.A) (x:=x) (by rw [(h.nw x List.mem_cons_self).2]; decide)
  have:=m.ao
  unfold Ao at this
  omega
def Oe (c : Nat) (a : AS) (x : Int) (L : List E2) : Prop:=∃ lev B,All a c lev x L B /\ Amp a /\ a.A.L.count 0 + B.length = 500 /\ B.length <= 150 /\ (∀ y,a.F y = true -> y ∈ B) /\ ∀ e ∈ L,mayE e.1 e.2 = true
theorem oe0 : Oe 2 (as0 500) 0 []:=⟨0,[],⟨⟨rfl,rfl,rfl⟩,fun y => (by simp),fun y hy => (by cases hy)⟩,⟨by unfold Ao as0 Ah.new; simp,by unfold as0 Ah.new; simp,rfl⟩,by unfold as0 Ah.new; simp,by simp,fun y hy => (by cases hy),fun e he => (by cases he)⟩
theorem Oe.root {c : Nat} {a : AS} {x : Int} {L : List E2} (h : Oe c a x L) : (0 <= x /\ x <= 65535) /\ Up L:=by
 obtain ⟨lev,B,h1,h2,_⟩:=h
 exact ⟨zre9 h1 h2,h1.tr.up⟩
theorem Oe.weak {a : AS} {x : Int} {L : List E2} (h : Oe 2 a x L) : Oe 1 a x L:=by
 obtain ⟨lev,B,h1,h2⟩:=h
 exact ⟨lev,B,⟨h1.tr.weak (by decide),h1.nd,h1.nw⟩,h2⟩
theorem zjw9 {a a' : AS} {B B' T X : List Int} (hs : Stp a a' T X) (hc : ∀ y,B'.count y + X.count y = B.count y + T.count y) (hf : ∀ y,a.F y = true -> y ∈ B) : ∀ y,a'.F y = true -> y ∈ B':=fun y hy => by
 obtain ⟨h1,h2⟩:=(hs.f y).1 hy
 have q1 : X.count y = 0:=List.count_eq_zero.2 h2
 have q2:=hc y
 refine List.count_pos_iff.1 ?_
 rcases h1 with e | e
 ·have:=List.count_pos_iff.2 e; omega
 ·have:=List.count_pos_iff.2 (hf y e); omega
theorem Oe.put {a : AS} {x : Int} {L : List E2} (h : Oe 2 a x L) {e : E2} (he : mayE e.1 e.2 = true) (hl : L.length < 150) : (putF a x e.1 e.2).e = 0 /\ Oe 2 (putF a x e.1 e.2).a (putF a x e.1 e.2).x (insE e.1 e.2 L):=by
 obtain ⟨lev,B,h1,h2,h3,h4,h5,h6⟩:=h
 obtain ⟨m1,m2,m3⟩:=zkt9.1 he
 obtain ⟨p1,lev',B',T,X,p2,p3,p4⟩:=zrp9 h1 h2 m1 m2 m3 (by omega) (by omega)
 have:=p3.ct
 have:=len_eq p4
 have hf:=p2.tr.few.1
 have:=zga9 e.1 e.2 L
 refine ⟨p1,lev',B',p2,p3.amp h2,by omega,by omega,zjw9 p3 p4 h5,fun q hq => ?_⟩
 rcases zqt9.1 hq with t | ⟨t,_⟩
 ·rw [t]; exact he
 ·exact h6 q t
theorem Oe.del {a : AS} {x : Int} {L : List E2} (h : Oe 1 a x L) {e : E2} (he : e ∈ L) : (delF a x e.1).e = 0 /\ (delF a x e.1).ok = true /\ Oe 1 (delF a x e.1).a (delF a x e.1).x (delE e.1 L):=by
 obtain ⟨lev,B,h1,h2,h3,h4,h5,h6⟩:=h
 obtain ⟨m1,m2,m3⟩:=zkt9.1 (h6 e he)
 obtain ⟨p1,p0,lev',B',T,X,p2,p3,p4,p5⟩:=zro9 h1 h2 m2 ⟨e,he,rfl⟩ (by omega)
 have:=p3.ct
 have:=len_eq p4
 exact ⟨p1,p0,lev',B',p2,p3.amp h2,by omega,by omega,zjw9 p3 p4 h5,fun q hq => h6 q (List.mem_filter.1 hq).1⟩
theorem Oe.ends {a : AS} {x : Int} (h : Oe 1 a x []) (N : Nat) : x = 0 /\ Ah.fre a.A = 500 /\ freshL N a.F = []:=by
 obtain ⟨lev,B,h1,h2,h3,h4,h5,h6⟩:=h
 have hx : x = 0:=(h1.tr.none_iff (zn6 _)).2 rfl
 have hB : B = []:=by
  have ht:=h1.tr
  cases lev with
  | zero => exact ht.2.2
  | succ k => exact absurd hx ht.2.1
 subst hB
 refine ⟨hx,by unfold Ah.fre; rw [h2.sa]; simp at h3; omega,?_⟩
 refine List.eq_nil_iff_forall_not_mem.2 (fun y hy => ?_)
 have:=h5 y (zjv9.1 hy).2.2
 cases this
theorem zjm9 {key : ByteArray} : ∀ {L : List E2},Up L -> (∃ e ∈ L,e.1 = key) -> (delE key L).length + 1 = L.length
 | [],_,⟨e,he,_⟩ => by cases he
 | q :: L,hu,⟨e,he,hk⟩ => by
  obtain ⟨u1,u2⟩:=List.pairwise_cons.1 hu
  unfold delE
  rw [List.filter_cons]
  by_cases c : q.1 = key
  ·rw [if_neg (by rw [eqsP.2 c]; decide),zfg9 (fun r hr => by rw [eqs_ne (fun t => by have:=u1 r hr; rw [c,t] at this; exact this.irr)]; rfl)]
   rfl
  ·rw [if_pos (by rw [eqs_ne c]; rfl)]
   have : ∃ e ∈ L,e.1 = key:=by
    rcases List.mem_cons.1 he with t | t
    ·exact absurd (t ▸ hk) c
    ·exact ⟨e,t,hk⟩
   have:=zjm9 u2 this
   unfold delE at this
   rw [List.length_cons,List.length_cons,this]
structure Rem (o : List E2) (p k : Nat) (K : List E2) : Prop where
 len : K.length + k = o.length
 mem : ∀ j,k <= j -> j < o.length -> o.getD ((p + j) % o.length) eZ ∈ K
theorem rem0 (o : List E2) (p : Nat) : Rem o p 0 o:=⟨rfl,fun j _ h => zan9 (Nat.mod_lt _ (by omega))⟩
theorem mod_ne {p j k n : Nat} (h1 : j < k) (h2 : k < n) : (p + j) % n ≠ (p + k) % n:=fun e => by
 have:=Nat.sub_mod_eq_zero_of_mod_eq e.symm
 rw [show p + k - (p + j) = k - j by omega,Nat.mod_eq_of_lt (by omega)] at this
 omega
theorem Rem.step {o K : List E2} {p k : Nat} (h : Rem o p k K) (hu : Up o) (hk : k < o.length) (hK : Up K) : Rem o p (k + 1) (delE (o.getD ((p + k) % o.length) eZ).1 K):=by
 have hm:=h.mem k (zn6 _) hk
 refine ⟨by have:=zjm9 hK ⟨_,hm,rfl⟩; have:=h.len; omega,fun j hj hl => ?_⟩
 unfold delE
 refine List.mem_filter.2 ⟨h.mem j (by omega) hl,?_⟩
 have hn:=mod_ne (p:=p) (show k < j by omega) hl
 have i1 : (p + k) % o.length < o.length:=Nat.mod_lt _ (by omega)
 have i2 : (p + j) % o.length < o.length:=Nat.mod_lt _ (by omega)
 rw [eqs_ne]
 ·rfl
 ·intro e
  have g : ∀ i,i < o.length -> ∀ l,l < o.length -> i < l -> Kl (o.getD i eZ).1 (o.getD l eZ).1:=fun i hi l hl' il => by
   have:=List.pairwise_iff_getElem.1 hu i l hi hl' il
   rw [zn3,zn3,List.getElem?_eq_getElem hi,List.getElem?_eq_getElem hl']
   exact this
  rcases Nat.lt_or_gt_of_ne hn with q | q
  ·have:=g _ i1 _ i2 q; rw [e] at this; exact this.irr
  ·have:=g _ i2 _ i1 q; rw [e] at this; exact this.irr
theorem OwE.mono {B B' : Nat} {w : World} {v : Value} {ps : List E2} (h : OwE B w v ps) (hb : B' <= B) : OwE B' w v ps:=by
 rcases h with ⟨h1,h2⟩
 refine ⟨h1,?_⟩
 rcases h2 with h0 | ⟨g,cap,cur,rfl,hg,rest⟩
 ·exact .inl h0
 ·exact .inr ⟨g,cap,cur,rfl,by omega,rest⟩
theorem Od.fresh {w W W' : World} {b t c d M N : Nat} {a : AS} {v v' : Value} {own own' : List E2} (h : Od w b t c d M N a v own W) (hb : Below W.heap.size W W') (ho : OwE W.heap.size W' v' own') : Od w b t c d M N a v' own' W':=by
 obtain ⟨U,h⟩:=h
 have hlt : ∀ j,U j -> j < W.heap.size:=fun j hj => by obtain ⟨_,_,_,_,_,_,q⟩:=h.lw.tz; exact q.ul j hj
 have h2:=h.below hb
 refine ⟨U,h2.lw,h2.bl,h2.ug,h2.bg,ho.mono h.bl.size,fun j hj => ?_⟩
 have:=ho.ge j hj
 exact ⟨fun q => by have:=hlt j q; omega,fun q => by have:=h.lw.lt; omega⟩
end Go.Proofs.YtjhccpijpffahaaGreat
