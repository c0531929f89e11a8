import Derived.Test.YtjhccpijpffahaaGreatPNVar
import Derived.Lib.SlBuf
set_option maxRecDepth 100000
set_option linter.unusedVariables false
set_option linter.unusedSimpArgs false
set_option maxHeartbeats 8000000
namespace Go.Proofs.YtjhccpijpffahaaGreat
open Go.RowKit Pl
theorem zerosS (n : Nat) : Builtin.zeroCells (.string ⟨#[]⟩ : Value).cells n = (List.replicate n (.string ⟨#[]⟩ : Value)).toArray:=by
 apply Array.ext'
 simp only [Builtin.zeroCells,Value.cells]
 apply List.ext_getElem
 ·simp
 ·intro i h1 h2
  simp [Nat.mod_one]
theorem znq9 (w : World) (ty : TypeId) (n : Nat) (h1 : 1 <= n) (hn : n * 16 <= 140737488355328) :
  ∃ cap w',(Builtin.append_ #[91,3] ty #[.slice none 0 0,.int .i64 (n : Int)]).run Tryz.prog w = .ok (.slice (some ⟨w.heap.size,0,none⟩) n cap) w' /\ n <= cap /\ cap <= maxLen /\ OwnsV 9 w' (.slice (some ⟨w.heap.size,0,none⟩) 0 cap) [] /\ Below w.heap.size w w':=by
 obtain ⟨ht,⟨i,hi,hz,hs1,hby⟩,hone⟩:=elemS
 have hu : Tryz.prog.underlying 3 = some (.int .i64):=Tryz.underlying3
 have hw : IntKind.i64.wrap (n : Int) = (n : Int):=by rw [IntKind.wrap_i64]; omega
 have hai : ∀ w' : World,(asInt (.int .i64 (n : Int))).run Tryz.prog w' = .ok (n : Int) w':=fun w' => by simp [asInt,asIntOf]
 have hn0 : ¬ ((n : Int) < 0):=by omega
 have hn48 : ¬ (281474976710656 < (n : Int) * 16):=by omega
 have hnz : ¬ ((n : Int) <= 0):=by omega
 have h63 : ¬ (9223372036854775807 < (n : Int)):=by omega
 have h0 : ¬ n = 0:=by omega
 have hfit : ¬ (281474976710656 < Builtin.nextslicecap n 0 * 16):=by have:=growslice_fits (old:=0) (need:=n) (bytes:=16) (by omega) (by omega); omega
 have hge:=grownCap_ge w n 0 9
 have hcm : grownCap w n 0 9 <= maxLen:=grownCap_le_maxLen w n 0 9 (by unfold maxLen; omega)
 refine ⟨grownCap w n 0 9,w.drew.alloc (.cells (Builtin.zeroCells (.string ⟨#[]⟩ : Value).cells n ++ Builtin.zeroCells (.string ⟨#[]⟩ : Value).cells (grownCap w n 0 9 - n)) 9),?_,hge,hcm,?_,(Below.refl _ _).drew.alloc (zn6 _) _⟩
 ·simp [Builtin.append_,run_underlying ht,run_underlying hu,sizeOf,typeInfo,zeroValue,hi,hz,hs1,hby,hw,hai,h0,hn0,hn48,hnz,h63,hfit,Question.forced,Builtin.firstCells,loadCells,loadCellsFrom,newRow,grownCap]
 ·refine ⟨rfl,.inr ⟨w.heap.size,_,_,rfl,zn7 _,heap_alloc_new w.drew _,zn7 _,hcm,?_,by simp⟩⟩
  rw [zerosS,zerosS]
  simp only [List.append_toArray,List.size_toArray,List.length_append,List.length_replicate]
  omega
theorem zgp9 (w : World) {ops : Array Oper} {rest : List Oper} {o : Oper} {a : Act} {Q : Exit -> Act -> World -> Prop} (hgd : o.guard = none) (s x : Operand)
  (ho : o.op = .call { callee:=.builtin .append,args:=#[s,x],argTypes:=#[91,3] }) (n : Nat) (hs : a.eval s = .slice none 0 0) (hx : a.eval x = .int .i64 (n : Int)) (h1 : 1 <= n) (hn : n * 16 <= 140737488355328)
  (h : ∀ cap w',n <= cap -> cap <= maxLen -> OwnsV 9 w' (.slice (some ⟨w.heap.size,0,none⟩) 0 cap) [] -> Below w.heap.size w w' -> wpList Tryz.prog ops Q rest (a.put o.dst (.slice (some ⟨w.heap.size,0,none⟩) n cap)) w') : wpList Tryz.prog ops Q (o :: rest) a w:=by
 obtain ⟨cap,w',hr,h2,h3,h4,h5⟩:=znq9 w o.type n h1 hn
 refine wpList_plain hgd fun K hK => ?_
 unfold Oper.wp
 simp [execOp,ho,resolve,invoke,builtin,hs,hx,hr,Result.andThen]
 exact hK _ _ (h cap w' h2 h3 h4 h5)
theorem zms9 (n : Nat) (w : World) (hn : n * 16 <= 140737488355328) :
  Calls Tryz.prog 193 #[.slice none 0 0,.int .i64 n] w fun e w' => (∃ v',e = .returned v' /\ OwnsV 9 w' v' [] /\ ∀ j,v'.ownBlock = some j -> w.heap.size <= j) /\ Below w.heap.size w w':=by
 by_cases h1 : 1 <= n
 ·go_enter Tryz.func193,Tryz.ntmps193
  go_wp2_with (at_builtin; refine zgp9 _ rfl (.tmp 20) (.tmp 21) rfl n rfl rfl h1 hn ?_)
  intro cap w2 hc1 hc2 ho2 hb2
  have HO:=hideN ho2
  have HB:=hideN hb2
  have hcap : cap <= 9223372036854775807:=by unfold maxLen at hc2; omega
  clear ho2 hb2 hc2
  go_wp2_with fail
  go_ret
  exact ⟨⟨_,rfl,HO.out,fun j hj => by (have h9 : w.heap.size = j:=(by simpa [Value.ownBlock] using hj)); omega⟩,HB.out⟩
 ·have h0 : n = 0:=by omega
  subst h0
  clear h1 hn
  go_enter Tryz.func193,Tryz.ntmps193
  go_wp2_with fail
  go_ret
  exact ⟨⟨_,rfl,zhl9 _ _,fun j hj => by cases hj⟩,Below.refl _ _⟩
theorem zdo9 (B : Nat) (va vb : Value) (xs ys : List Value) (w : World) (ha : RdV w va xs) (hb : RdV w vb ys) (h1 : ∀ x ∈ xs,x.oneCell' = true) (h2 : ∀ x ∈ ys,x.oneCell' = true) (h3 : (xs.length + ys.length) * 16 <= 140737488355328)
  (c0 : w.cell? ⟨B,0,none⟩ = some va) (c1 : w.cell? ⟨B,1,none⟩ = some vb) :
  Calls Tryz.prog 188 #[.slice (some ⟨B,0,none⟩) 2 2] w fun e w' => (∃ v',e = .returned v' /\ OwnsV 9 w' v' (xs ++ ys) /\ ∀ j,v'.ownBlock = some j -> w.heap.size <= j) /\ Below w.heap.size w w':=by
 have HA:=hideN ha
 have HB:=hideN hb
 have H1:=hideN h1
 have H2:=hideN h2
 obtain ⟨aa,ac,rfl,_⟩:=ha.len
 obtain ⟨ba,bc,rfl,_⟩:=hb.len
 have C0:=hideN c0
 have C1:=hideN c1
 obtain ⟨X,hX⟩:=exH xs.length
 obtain ⟨Y,hY⟩:=exH ys.length
 rw [hX.out] at HA C0 c0 h3
 rw [hY.out] at HB C1 c1 h3
 have hXb : X <= 140737488355328:=by omega
 have hYb : Y <= 140737488355328:=by omega
 clear ha hb h1 h2
 go_enter Tryz.func188,Tryz.ntmps188
 go_wp2_with fail
 go_loop [3,11] (fun s i => ∃ k q : Nat,k <= 2 /\ i = .int .i64 k /\ s = .int .i64 q /\ ((k = 0 /\ q = 0) ∨ (k = 1 /\ q = X) ∨ (k = 2 /\ q = X + Y))) (fun _ i => 2 - (intOf i).toNat)
 case atStart => exact ⟨0,0,by omega,rfl,rfl,.inl ⟨rfl,rfl⟩⟩
 case round =>
  obtain ⟨k,q,hk,rfl,rfl,hkq⟩:=hrel
  rcases hkq with ⟨rfl,rfl⟩ | ⟨rfl,rfl⟩ | ⟨rfl,rfl⟩
  ·go_wp2_with fail
   go_round
   case rel => exact ⟨1,X,by omega,by first | rfl | go_num,by first | rfl | go_num,.inr (.inl ⟨rfl,rfl⟩)⟩
   case measure => simp [intOf]
  ·go_wp2_with fail
   go_round
   case rel => exact ⟨2,q + Y,by omega,by first | rfl | go_num,by first | rfl | go_num,.inr (.inr ⟨rfl,rfl⟩)⟩
   case measure => simp [intOf]
  ·have HGR:=hideN (zms9 (X + Y) w h3)
   clear c0 c1
   go_wp2_with fail
   refine HGR.out.mono ?_
   clear HGR
   rintro e w2 ⟨⟨v2,rfl,ho2,hn2⟩,hb2⟩
   have O2:=hideN ho2
   have N2:=hideN hn2
   have B2:=hideN hb2
   clear ho2 hn2 hb2
   go_wp2_with fail
   go_loopw [6,27] (fun r i wr => ∃ (k : Nat) (l : List Value),k <= 2 /\ i = .int .i64 k /\ ((k = 0 /\ Hid (l = [])) ∨ (k = 1 /\ Hid (l = xs)) ∨ (k = 2 /\ Hid (l = xs ++ ys))) /\ Hid (OwnsV 9 wr r l) /\ Hid (∀ j,r.ownBlock = some j -> w.heap.size <= j) /\ Hid (Below w.heap.size w wr)) (fun _ i _ => 2 - (intOf i).toNat)
   case atStart => exact ⟨0,[],by omega,rfl,.inl ⟨rfl,rfl⟩,O2,N2,B2⟩
   case round =>
    clear O2 N2 B2
    obtain ⟨k,l,hk,rfl,hkq,HO,HN,HBL⟩:=hrel
    rcases hkq with ⟨rfl,HL⟩ | ⟨rfl,HL⟩ | ⟨rfl,HL⟩
    ·have d0 : wr.cell? ⟨B,0,none⟩ = some (.slice aa X ac):=by rw [HBL.out.cell (p:=⟨B,0,none⟩) (World.block_lt_of_cell? w ⟨B,0,none⟩ C0.out),C0.out]
     have HA2:=hideN (HA.out.below HBL.out)
     have HQ : Hid (l.length + xs.length <= 9223372036854775807 /\ (l.length + xs.length) * 16 <= 140737488355328):=by show _ /\ _; rw [HL.out,hX.out]; simp; omega
     go_wp2_with (at_builtin; refine zz9 _ rfl (.tmp 31) (.tmp 32) 91 rfl 9 _ 16 elemS _ l rfl HO.out _ xs rfl HA2.out H1.out HQ.out.1 HQ.out.2 ?_)
     intro v3 w3 ho3 hg3
     have HO3 : Hid (OwnsV 9 w3 v3 xs):=by have:=ho3; rw [HL.out,List.nil_append] at this; exact this
     have hb3:=hg3.onto HBL.out HN.out
     have B3:=hideN hb3.1
     have N3:=hideN hb3.2
     clear ho3 hg3 HO HN HBL d0 HA2 hb3 HQ
     go_wp2_with fail
     go_roundw
     case rel => exact ⟨1,xs,by omega,by first | rfl | go_num,.inr (.inl ⟨rfl,rfl⟩),HO3,N3,B3⟩
     case measure => simp [intOf]
    ·have d0 : wr.cell? ⟨B,1,none⟩ = some (.slice ba Y bc):=by rw [HBL.out.cell (p:=⟨B,1,none⟩) (World.block_lt_of_cell? w ⟨B,1,none⟩ C1.out),C1.out]
     have HA2:=hideN (HB.out.below HBL.out)
     have HQ : Hid (l.length + ys.length <= 9223372036854775807 /\ (l.length + ys.length) * 16 <= 140737488355328):=by show _ /\ _; rw [HL.out,hX.out,hY.out]; omega
     go_wp2_with (at_builtin; refine zz9 _ rfl (.tmp 31) (.tmp 32) 91 rfl 9 _ 16 elemS _ l rfl HO.out _ ys rfl HA2.out H2.out HQ.out.1 HQ.out.2 ?_)
     intro v3 w3 ho3 hg3
     have HO3 : Hid (OwnsV 9 w3 v3 (xs ++ ys)):=by have:=ho3; rw [HL.out] at this; exact this
     have hb3:=hg3.onto HBL.out HN.out
     have B3:=hideN hb3.1
     have N3:=hideN hb3.2
     clear ho3 hg3 HO HN HBL d0 HA2 hb3 HQ
     go_wp2_with fail
     go_roundw
     case rel => exact ⟨2,xs ++ ys,by omega,by first | rfl | go_num,.inr (.inr ⟨rfl,rfl⟩),HO3,N3,B3⟩
     case measure => simp [intOf]
    ·go_wp2_with fail
     go_ret
     exact ⟨⟨_,rfl,by have:=HO.out; rw [HL.out] at this; exact this,HN.out⟩,HBL.out⟩
theorem zjk9 (v : Value) (xs : List Value) (w : World) (ha : RdV w v xs) (h1 : ∀ x ∈ xs,x.oneCell' = true) (h3 : xs.length * 16 <= 140737488355328) :
  Calls Tryz.prog 190 #[v] w fun e w' => (∃ v',e = .returned v' /\ RdV w' v' xs /\ ∀ j,v'.ownBlock = some j -> w.heap.size <= j /\ j < w'.heap.size) /\ Below w.heap.size w w':=by
 have HA:=hideN ha
 have H1:=hideN h1
 have q22 : ∀ (w : World) (a : Option Addr) (n c n' c' : Nat),(binOp .eql 91 (.slice a n c) (.slice none n' c')).run Tryz.prog w = .ok (.bool a.isNone) w:=fun w a n c n' c' => Lib.run_eql_slice_nil w _ _ a n c n' c' Tryz.underlying91
 obtain ⟨aa,ac,rfl,_,_,hn0⟩:=ha.len
 cases aa with
 | none =>
  have hc:=hn0 rfl
  have hx : xs = []:=by
   obtain ⟨a',c',e,hl,_⟩:=ha
   cases e
   exact List.eq_nil_of_length_eq_zero (by omega)
  subst hx hc
  clear ha h1 h3 hn0
  go_enter Tryz.func190,Tryz.ntmps190
  go_wp2_with fail
  go_ret
  exact ⟨⟨_,rfl,zam9 _,fun j hj => by cases hj⟩,Below.refl _ _⟩
 | some ad =>
  have OE : Hid (OwnsV 9 (w.alloc (.cells #[] 9)) (.slice (some ⟨w.heap.size,0,none⟩) 0 0) []):=⟨rfl,.inr ⟨w.heap.size,0,#[],rfl,zn7 _,heap_alloc_new w _,zn6 _,zn7 _,rfl,rfl⟩⟩
  have HQ : Hid (([] : List Value).length + xs.length <= 9223372036854775807 /\ (([] : List Value).length + xs.length) * 16 <= 140737488355328):=by show _ /\ _; simp; omega
  obtain ⟨X,hX⟩:=exH xs.length
  rw [hX.out] at HA ⊢
  clear ha h1 h3 hn0
  go_enter Tryz.func190,Tryz.ntmps190
  go_wp2_with (at_builtin; refine zz9 _ rfl (.tmp 5) (.tmp 6) 91 rfl 9 _ 16 elemS _ [] rfl OE.out _ xs rfl (HA.out.below (za9 _ _)) H1.out HQ.out.1 HQ.out.2 ?_)
  intro v3 w3 ho3 hg3
  have hb3:=hg3.onto (za9 w _) (fun j hj => by simp only [Value.ownBlock,Option.some.injEq] at hj; omega)
  have R3 : Hid (RdV w3 v3 xs):=by first | exact ho3.rd | (have:=ho3; rw [List.nil_append] at this; exact this.rd)
  have B3:=hideN hb3.1
  have N3 : Hid (∀ j,v3.ownBlock = some j -> w.heap.size <= j /\ j < w3.heap.size):=fun j hj => ⟨hb3.2 j hj,ho3.lt j hj⟩
  clear ho3 hg3 hb3
  go_wp2_with fail
  go_ret
  exact ⟨⟨_,rfl,R3.out,N3.out⟩,B3.out⟩
theorem zerosI (n : Nat) : Builtin.zeroCells (.int .i64 0 : Value).cells n = (List.replicate n (.int .i64 0 : Value)).toArray:=by
 apply Array.ext'
 simp only [Builtin.zeroCells,Value.cells]
 apply List.ext_getElem
 ·simp
 ·intro i h1 h2
  simp [Nat.mod_one]
theorem znp9 (w : World) (ty : TypeId) (n : Nat) (h1 : 1 <= n) (hn : n * 8 <= 140737488355328) :
  ∃ cap w',(Builtin.append_ #[56,3] ty #[.slice none 0 0,.int .i64 (n : Int)]).run Tryz.prog w = .ok (.slice (some ⟨w.heap.size,0,none⟩) n cap) w' /\ n <= cap /\ cap <= maxLen /\ OwnsV 3 w' (.slice (some ⟨w.heap.size,0,none⟩) 0 cap) [] /\ Below w.heap.size w w':=by
 obtain ⟨ht,⟨i,hi,hz,hs1,hby⟩,hone⟩:=elemIN
 have hu : Tryz.prog.underlying 3 = some (.int .i64):=Tryz.underlying3
 have hw : IntKind.i64.wrap (n : Int) = (n : Int):=by rw [IntKind.wrap_i64]; omega
 have hai : ∀ w' : World,(asInt (.int .i64 (n : Int))).run Tryz.prog w' = .ok (n : Int) w':=fun w' => by simp [asInt,asIntOf]
 have hn0 : ¬ ((n : Int) < 0):=by omega
 have hn48 : ¬ (281474976710656 < (n : Int) * 8):=by omega
 have hnz : ¬ ((n : Int) <= 0):=by omega
 have h63 : ¬ (9223372036854775807 < (n : Int)):=by omega
 have h0 : ¬ n = 0:=by omega
 have hfit : ¬ (281474976710656 < Builtin.nextslicecap n 0 * 8):=by have:=growslice_fits (old:=0) (need:=n) (bytes:=8) (by omega) (by omega); omega
 have hge:=grownCap_ge w n 0 3
 have hcm : grownCap w n 0 3 <= maxLen:=grownCap_le_maxLen w n 0 3 (by unfold maxLen; omega)
 refine ⟨grownCap w n 0 3,w.drew.alloc (.cells (Builtin.zeroCells (.int .i64 0 : Value).cells n ++ Builtin.zeroCells (.int .i64 0 : Value).cells (grownCap w n 0 3 - n)) 3),?_,hge,hcm,?_,(Below.refl _ _).drew.alloc (zn6 _) _⟩
 ·simp [Builtin.append_,run_underlying ht,run_underlying hu,sizeOf,typeInfo,zeroValue,hi,hz,hs1,hby,hw,hai,h0,hn0,hn48,hnz,h63,hfit,Question.forced,Builtin.firstCells,loadCells,loadCellsFrom,newRow,grownCap]
 ·refine ⟨rfl,.inr ⟨w.heap.size,_,_,rfl,zn7 _,heap_alloc_new w.drew _,zn7 _,hcm,?_,by simp⟩⟩
  rw [zerosI,zerosI]
  simp only [List.append_toArray,List.size_toArray,List.length_append,List.length_replicate]
  omega
theorem zgo9 (w : World) {ops : Array Oper} {rest : List Oper} {o : Oper} {a : Act} {Q : Exit -> Act -> World -> Prop} (hgd : o.guard = none) (s x : Operand)
  (ho : o.op = .call { callee:=.builtin .append,args:=#[s,x],argTypes:=#[56,3] }) (n : Nat) (hs : a.eval s = .slice none 0 0) (hx : a.eval x = .int .i64 (n : Int)) (h1 : 1 <= n) (hn : n * 8 <= 140737488355328)
  (h : ∀ cap w',n <= cap -> cap <= maxLen -> OwnsV 3 w' (.slice (some ⟨w.heap.size,0,none⟩) 0 cap) [] -> Below w.heap.size w w' -> wpList Tryz.prog ops Q rest (a.put o.dst (.slice (some ⟨w.heap.size,0,none⟩) n cap)) w') : wpList Tryz.prog ops Q (o :: rest) a w:=by
 obtain ⟨cap,w',hr,h2,h3,h4,h5⟩:=znp9 w o.type n h1 hn
 refine wpList_plain hgd fun K hK => ?_
 unfold Oper.wp
 simp [execOp,ho,resolve,invoke,builtin,hs,hx,hr,Result.andThen]
 exact hK _ _ (h cap w' h2 h3 h4 h5)
theorem zmr9 (n : Nat) (w : World) (hn : n * 8 <= 140737488355328) :
  Calls Tryz.prog 194 #[.slice none 0 0,.int .i64 n] w fun e w' => (∃ v',e = .returned v' /\ OwnsV 3 w' v' [] /\ ∀ j,v'.ownBlock = some j -> w.heap.size <= j) /\ Below w.heap.size w w':=by
 by_cases h1 : 1 <= n
 ·go_enter Tryz.func194,Tryz.ntmps194
  go_wp2_with (at_builtin; refine zgo9 _ rfl (.tmp 20) (.tmp 21) rfl n rfl rfl h1 hn ?_)
  intro cap w2 hc1 hc2 ho2 hb2
  have HO:=hideN ho2
  have HB:=hideN hb2
  have hcap : cap <= 9223372036854775807:=by unfold maxLen at hc2; omega
  clear ho2 hb2 hc2
  go_wp2_with fail
  go_ret
  exact ⟨⟨_,rfl,HO.out,fun j hj => by (have h9 : w.heap.size = j:=(by simpa [Value.ownBlock] using hj)); omega⟩,HB.out⟩
 ·have h0 : n = 0:=by omega
  subst h0
  clear h1 hn
  go_enter Tryz.func194,Tryz.ntmps194
  go_wp2_with fail
  go_ret
  exact ⟨⟨_,rfl,zhl9 _ _,fun j hj => by cases hj⟩,Below.refl _ _⟩
theorem zie9 (B : Nat) (va vb : Value) (xs ys : List Value) (w : World) (ha : RdV w va xs) (hb : RdV w vb ys) (h1 : ∀ x ∈ xs,x.oneCell' = true) (h2 : ∀ x ∈ ys,x.oneCell' = true) (h3 : (xs.length + ys.length) * 8 <= 140737488355328)
  (c0 : w.cell? ⟨B,0,none⟩ = some va) (c1 : w.cell? ⟨B,1,none⟩ = some vb) :
  Calls Tryz.prog 189 #[.slice (some ⟨B,0,none⟩) 2 2] w fun e w' => (∃ v',e = .returned v' /\ OwnsV 3 w' v' (xs ++ ys) /\ ∀ j,v'.ownBlock = some j -> w.heap.size <= j) /\ Below w.heap.size w w':=by
 have HA:=hideN ha
 have HB:=hideN hb
 have H1:=hideN h1
 have H2:=hideN h2
 obtain ⟨aa,ac,rfl,_⟩:=ha.len
 obtain ⟨ba,bc,rfl,_⟩:=hb.len
 have C0:=hideN c0
 have C1:=hideN c1
 obtain ⟨X,hX⟩:=exH xs.length
 obtain ⟨Y,hY⟩:=exH ys.length
 rw [hX.out] at HA C0 c0 h3
 rw [hY.out] at HB C1 c1 h3
 have hXb : X <= 140737488355328:=by omega
 have hYb : Y <= 140737488355328:=by omega
 clear ha hb h1 h2
 go_enter Tryz.func189,Tryz.ntmps189
 go_wp2_with fail
 go_loop [3,11] (fun s i => ∃ k q : Nat,k <= 2 /\ i = .int .i64 k /\ s = .int .i64 q /\ ((k = 0 /\ q = 0) ∨ (k = 1 /\ q = X) ∨ (k = 2 /\ q = X + Y))) (fun _ i => 2 - (intOf i).toNat)
 case atStart => exact ⟨0,0,by omega,rfl,rfl,.inl ⟨rfl,rfl⟩⟩
 case round =>
  obtain ⟨k,q,hk,rfl,rfl,hkq⟩:=hrel
  rcases hkq with ⟨rfl,rfl⟩ | ⟨rfl,rfl⟩ | ⟨rfl,rfl⟩
  ·go_wp2_with fail
   go_round
   case rel => exact ⟨1,X,by omega,by first | rfl | go_num,by first | rfl | go_num,.inr (.inl ⟨rfl,rfl⟩)⟩
   case measure => simp [intOf]
  ·go_wp2_with fail
   go_round
   case rel => exact ⟨2,q + Y,by omega,by first | rfl | go_num,by first | rfl | go_num,.inr (.inr ⟨rfl,rfl⟩)⟩
   case measure => simp [intOf]
  ·have HGR:=hideN (zmr9 (X + Y) w h3)
   clear c0 c1
   go_wp2_with fail
   refine HGR.out.mono ?_
   clear HGR
   rintro e w2 ⟨⟨v2,rfl,ho2,hn2⟩,hb2⟩
   have O2:=hideN ho2
   have N2:=hideN hn2
   have B2:=hideN hb2
   clear ho2 hn2 hb2
   go_wp2_with fail
   go_loopw [6,27] (fun r i wr => ∃ (k : Nat) (l : List Value),k <= 2 /\ i = .int .i64 k /\ ((k = 0 /\ Hid (l = [])) ∨ (k = 1 /\ Hid (l = xs)) ∨ (k = 2 /\ Hid (l = xs ++ ys))) /\ Hid (OwnsV 3 wr r l) /\ Hid (∀ j,r.ownBlock = some j -> w.heap.size <= j) /\ Hid (Below w.heap.size w wr)) (fun _ i _ => 2 - (intOf i).toNat)
   case atStart => exact ⟨0,[],by omega,rfl,.inl ⟨rfl,rfl⟩,O2,N2,B2⟩
   case round =>
    clear O2 N2 B2
    obtain ⟨k,l,hk,rfl,hkq,HO,HN,HBL⟩:=hrel
    rcases hkq with ⟨rfl,HL⟩ | ⟨rfl,HL⟩ | ⟨rfl,HL⟩
    ·have d0 : wr.cell? ⟨B,0,none⟩ = some (.slice aa X ac):=by rw [HBL.out.cell (p:=⟨B,0,none⟩) (World.block_lt_of_cell? w ⟨B,0,none⟩ C0.out),C0.out]
     have HA2:=hideN (HA.out.below HBL.out)
     have HQ : Hid (l.length + xs.length <= 9223372036854775807 /\ (l.length + xs.length) * 8 <= 140737488355328):=by show _ /\ _; rw [HL.out,hX.out]; simp; omega
     go_wp2_with (at_builtin; refine zz9 _ rfl (.tmp 31) (.tmp 32) 56 rfl 3 _ 8 elemIN _ l rfl HO.out _ xs rfl HA2.out H1.out HQ.out.1 HQ.out.2 ?_)
     intro v3 w3 ho3 hg3
     have HO3 : Hid (OwnsV 3 w3 v3 xs):=by have:=ho3; rw [HL.out,List.nil_append] at this; exact this
     have hb3:=hg3.onto HBL.out HN.out
     have B3:=hideN hb3.1
     have N3:=hideN hb3.2
     clear ho3 hg3 HO HN HBL d0 HA2 hb3 HQ
     go_wp2_with fail
     go_roundw
     case rel => exact ⟨1,xs,by omega,by first | rfl | go_num,.inr (.inl ⟨rfl,rfl⟩),HO3,N3,B3⟩
     case measure => simp [intOf]
    ·have d0 : wr.cell? ⟨B,1,none⟩ = some (.slice ba Y bc):=by rw [HBL.out.cell (p:=⟨B,1,none⟩) (World.block_lt_of_cell? w ⟨B,1,none⟩ C1.out),C1.out]
     have HA2:=hideN (HB.out.below HBL.out)
     have HQ : Hid (l.length + ys.length <= 9223372036854775807 /\ (l.length + ys.length) * 8 <= 140737488355328):=by show _ /\ _; rw [HL.out,hX.out,hY.out]; omega
     go_wp2_with (at_builtin; refine zz9 _ rfl (.tmp 31) (.tmp 32) 56 rfl 3 _ 8 elemIN _ l rfl HO.out _ ys rfl HA2.out H2.out HQ.out.1 HQ.out.2 ?_)
     intro v3 w3 ho3 hg3
     have HO3 : Hid (OwnsV 3 w3 v3 (xs ++ ys)):=by have:=ho3; rw [HL.out] at this; exact this
     have hb3:=hg3.onto HBL.out HN.out
     have B3:=hideN hb3.1
     have N3:=hideN hb3.2
     clear ho3 hg3 HO HN HBL d0 HA2 hb3 HQ
     go_wp2_with fail
     go_roundw
     case rel => exact ⟨2,xs ++ ys,by omega,by first | rfl | go_num,.inr (.inr ⟨rfl,rfl⟩),HO3,N3,B3⟩
     case measure => simp [intOf]
    ·go_wp2_with fail
     go_ret
     exact ⟨⟨_,rfl,by have:=HO.out; rw [HL.out] at this; exact this,HN.out⟩,HBL.out⟩
theorem zjj9 (v : Value) (xs : List Value) (w : World) (ha : RdV w v xs) (h1 : ∀ x ∈ xs,x.oneCell' = true) (h3 : xs.length * 8 <= 140737488355328) :
  Calls Tryz.prog 191 #[v] w fun e w' => (∃ v',e = .returned v' /\ RdV w' v' xs /\ ∀ j,v'.ownBlock = some j -> w.heap.size <= j /\ j < w'.heap.size) /\ Below w.heap.size w w':=by
 have HA:=hideN ha
 have H1:=hideN h1
 have q22 : ∀ (w : World) (a : Option Addr) (n c n' c' : Nat),(binOp .eql 56 (.slice a n c) (.slice none n' c')).run Tryz.prog w = .ok (.bool a.isNone) w:=fun w a n c n' c' => Lib.run_eql_slice_nil w _ _ a n c n' c' Tryz.underlying56
 obtain ⟨aa,ac,rfl,_,_,hn0⟩:=ha.len
 cases aa with
 | none =>
  have hc:=hn0 rfl
  have hx : xs = []:=by
   obtain ⟨a',c',e,hl,_⟩:=ha
   cases e
   exact List.eq_nil_of_length_eq_zero (by omega)
  subst hx hc
  clear ha h1 h3 hn0
  go_enter Tryz.func191,Tryz.ntmps191
  go_wp2_with fail
  go_ret
  exact ⟨⟨_,rfl,zam9 _,fun j hj => by cases hj⟩,Below.refl _ _⟩
 | some ad =>
  have OE : Hid (OwnsV 3 (w.alloc (.cells #[] 3)) (.slice (some ⟨w.heap.size,0,none⟩) 0 0) []):=⟨rfl,.inr ⟨w.heap.size,0,#[],rfl,zn7 _,heap_alloc_new w _,zn6 _,zn7 _,rfl,rfl⟩⟩
  have HQ : Hid (([] : List Value).length + xs.length <= 9223372036854775807 /\ (([] : List Value).length + xs.length) * 8 <= 140737488355328):=by show _ /\ _; simp; omega
  obtain ⟨X,hX⟩:=exH xs.length
  rw [hX.out] at HA ⊢
  clear ha h1 h3 hn0
  go_enter Tryz.func191,Tryz.ntmps191
  go_wp2_with (at_builtin; refine zz9 _ rfl (.tmp 5) (.tmp 6) 56 rfl 3 _ 8 elemIN _ [] rfl OE.out _ xs rfl (HA.out.below (za9 _ _)) H1.out HQ.out.1 HQ.out.2 ?_)
  intro v3 w3 ho3 hg3
  have hb3:=hg3.onto (za9 w _) (fun j hj => by simp only [Value.ownBlock,Option.some.injEq] at hj; omega)
  have R3 : Hid (RdV w3 v3 xs):=by first | exact ho3.rd | (have:=ho3; rw [List.nil_append] at this; exact this.rd)
  have B3:=hideN hb3.1
  have N3 : Hid (∀ j,v3.ownBlock = some j -> w.heap.size <= j /\ j < w3.heap.size):=fun j hj => ⟨hb3.2 j hj,ho3.lt j hj⟩
  clear ho3 hg3 hb3
  go_wp2_with fail
  go_ret
  exact ⟨⟨_,rfl,R3.out,N3.out⟩,B3.out⟩
end Go.Proofs.YtjhccpijpffahaaGreat
