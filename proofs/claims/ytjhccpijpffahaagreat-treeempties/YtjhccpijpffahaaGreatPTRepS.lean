import Derived.Test.YtjhccpijpffahaaGreatPTRow
import Derived.Lib.Overlaps
import Derived.Lib.JoinLaws
import Derived.Laws.Externs
import Derived.Shelf.Spec.SlicesInsert
set_option maxRecDepth 100000
set_option linter.unusedVariables false
set_option linter.unusedSimpArgs false
set_option maxHeartbeats 8000000
namespace Go.Proofs.YtjhccpijpffahaaGreat
open Go.RowKit Pl
section
variable {B : Nat} {w : World}
theorem infS1 : (Tryz.prog.info? 9).map (·.size) = some 1:=by kernel_rfl
theorem zvS1 (w : World) : (zeroValue 9).run Tryz.prog w = .ok (Value.string ⟨#[]⟩) w:=by kernel_rfl
theorem copyS {w : World} {g gs : Nat} {cur src : List Value} (hr : Rw 9 w g cur) (hs : Rw 9 w gs src) (o so k dl dc sl sc : Nat) (hk : k = Nat.min sl dl) (ho : o + k <= cur.length) (hso : so + k <= src.length) (h1 : ∀ y ∈ (src.drop so).take k,y.oneCell' = true) (ty : TypeId) :
  (Builtin.copy_ #[91,91] ty #[.slice (some ⟨g,o,none⟩) dl dc,.slice (some ⟨gs,so,none⟩) sl sc]).run Tryz.prog w = .ok (goInt k) (w.setCells g o ((src.drop so).take k)):=by
 have hl : ((src.drop so).take k).length = k:=by simp; omega
 have:=run_copy_cells (P:=Tryz.prog) w 91 91 ty 9 g o dl dc ⟨gs,so,none⟩ sl sc ((src.drop so).take k) Tryz.underlying91 infS1 (by rw [hl,hk])
  (fun j y hj => by
   rw [Addr.add_lit,hs.cell]
   have hj2:=(List.getElem?_eq_some_iff.1 hj).1
   rw [List.getElem?_take,if_pos (by omega),List.getElem?_drop] at hj
   exact hj)
  (fun j hj => hr.there (by omega)) (fun j hj => hr.fz _) h1
 rw [hl] at this
 exact this
theorem zrw9 (w : World) (a : Option Addr) (dl dc : Nat) (ty : TypeId) : (Builtin.copy_ #[91,91] ty #[.slice a dl dc,.slice none 0 0]).run Tryz.prog w = .ok (.int .i64 0) w:=by
 have hs : (sizeOf 9).run Tryz.prog w = .ok 1 w:=by
  obtain ⟨i,hi,h⟩:=Option.map_eq_some_iff.1 infS1
  simp [sizeOf,typeInfo,hi,h]
 have h0:=run_firstCells_none (P:=Tryz.prog) w 1 0 0 0
 cases a <;> simp [Builtin.copy_,run_underlying Tryz.underlying91,hs,Result.andThen,goInt,Builtin.lenOf,h0,storeCells]
theorem clearS {w : World} {g : Nat} {cur : List Value} (hr : Rw 9 w g cur) (o k c : Nat) (hk : 0 < k) (ho : o + k <= cur.length) (ty : TypeId) :
  (Builtin.clear_ #[91] ty #[.slice (some ⟨g,o,none⟩) k c]).run Tryz.prog w = .ok (.tuple #[]) (w.setCells g o (List.replicate k (Value.string ⟨#[]⟩))):=
 Lib.run_clear_slice w _ _ ty _ Tryz.underlying91 zvS1 rfl rfl g o k c hk (fun j hj => hr.there (by omega)) (fun j hj => hr.fz _)
def InS (w : World) (u : Value) (ys : List Value) (g : Nat) : Prop:=(u = .slice none 0 0 /\ ys = []) ∨ ∃ gu cu src,u = .slice (some ⟨gu,0,none⟩) ys.length cu /\ Rw 9 w gu src /\ gu ≠ g /\ src.take ys.length = ys /\ ys.length <= src.length
theorem InS.src {u : Value} {ys : List Value} {g : Nat} (h : InS w u ys g) (h1 : ∀ y ∈ ys,y.oneCell' = true) : Go.Src Tryz.prog 1 91 u ys.length ys w:=by
 rcases h with ⟨rfl,rfl⟩ | ⟨gu,cu,src,rfl,hr,_,ht,hl⟩
 ·exact Src.ofNil w Tryz.underlying91 0
 ·exact Src.ofSlice w Tryz.underlying91 ⟨gu,0,none⟩ _ cu ys (by simp) (fun j y hj => by
   rw [Addr.add_lit,Nat.zero_add,hr.cell]
   have hj2:=(List.getElem?_eq_some_iff.1 hj).1
   rw [<- ht,List.getElem?_take,if_pos hj2] at hj
   exact hj) h1
theorem repAS (g cap i n : Nat) (u : Value) (cur ys : List Value) (hr : Rw 9 w g cur) (hu : InS w u ys g) (h1 : ∀ y ∈ ys,y.oneCell' = true) (hi : i < n) (hn : n <= cap) (hc : cur.length = cap) (hm : cap <= 9223372036854775807) (hroom : i + ys.length <= cap) (hB : B <= g) :
  Calls Tryz.prog 163 #[.slice (some ⟨g,0,none⟩) n cap,.int .i64 (i : Int),.int .i64 (n : Int),u] w fun e w' => ∃ v',e = .returned v' /\ Trn B 9 w w' (.slice (some ⟨g,0,none⟩) n cap) v' (cur.take i ++ ys):=by
 have hs:=hu.src h1
 have HR:=hideN hr
 obtain ⟨m,hm2⟩:=exN ys.length
 have HM:=hideN hm2
 obtain ⟨ua,uc,rfl⟩ : ∃ a c,u = .slice a ys.length c:=by rcases hu with ⟨rfl,rfl⟩ | ⟨gu,cu,src,rfl,_⟩ <;> exact ⟨_,_,rfl⟩
 rw [hm2] at hs hroom ⊢
 have hz2 : ¬ ((i : Int) = (n : Int)):=by omega
 have hin : (i : Int) <= (n : Int):=by omega
 have hic : (i : Int) <= (cap : Int):=by omega
 have s1 : Hid (Rw 9 (w.setCells g i ys) g (cur.take i ++ (ys ++ cur.drop (i + ys.length)))):=hr.set (by rw [hm2]; omega)
 have T1 : Hid (Tch (fun k => (Value.slice (some ⟨g,0,none⟩) n cap).ownBlock = some k) w (w.setCells g i ys)):=(zb9 g _ _ _).mono (fun k _ e => by rw [e]; rfl)
 obtain ⟨W1,hW1⟩:=exN (w.setCells g i ys)
 rw [hW1] at s1 T1
 have HS:=hideN hs
 have HMX:=hideN hm
 have e1 : (cur.take i ++ (ys ++ cur.drop (i + ys.length))).length = cap:=by simp; omega
 have FIN : Hid (Trn B 9 w W1 (.slice (some ⟨g,0,none⟩) n cap) (.slice (some ⟨g,0,none⟩) (i + m) cap) (cur.take i ++ ys)):=
  ⟨s1.out.owV hB e1 (by unfold maxLen; exact HMX.out) hroom (by rw [<- List.append_assoc,zl9 (by simp; omega)]),T1.out,fun k hk => .inl hk⟩
 have hgr : ∀ j,j < ys.length -> (w.cell? ⟨g,0 + i + j,none⟩).isSome = true:=fun j hj => by rw [Nat.zero_add]; exact hr.there (by omega)
 have HGR:=hideN hgr
 have HROOM:=hideN hroom
 have E1:=hideN e1
 have HBG:=hideN hB
 have HW1:=hideN hW1
 clear hs hu hr hgr hm2 e1 hm hroom hW1
 by_cases hlt : i + m < n
 ·have hl1 : IntKind.i64.wrap ((i + m : Nat) : Int) = ((i + m : Nat) : Int):=by have:=HMX.out; rw [IntKind.wrap_i64]; omega
  have hl2 : ((i + m : Nat) : Int) < (n : Int):=by omega
  have hl5 : (i : Int) + (m : Int) < (n : Int):=by omega
  have hl6 : decide ((i : Int) + (m : Int) < (n : Int)) = true:=by rw [decide_eq_true_iff]; omega
  have hl3 : ((i + m : Nat) : Int) <= (n : Int):=by omega
  have hl7 : (i : Int) + (m : Int) <= (n : Int):=by omega
  have hl8 : (0 : Int) <= (i : Int) + (m : Int):=by omega
  have hl9 : ((i : Int) + (m : Int)).toNat = i + m:=by omega
  have hl4 : ¬ (cap = i + m):=by omega
  have cl:=clearS s1.out (i + m) (n - (i + m)) (cap - (i + m)) (by omega) (by rw [E1.out]; omega)
  have HCL:=hideN cl
  obtain ⟨W2,hW2⟩:=exH (W1.setCells g (i + m) (List.replicate (n - (i + m)) (Value.string ⟨#[]⟩)))
  rw [hW2.out] at HCL
  have FIN2 : Hid (Trn B 9 w W2 (.slice (some ⟨g,0,none⟩) n cap) (.slice (some ⟨g,0,none⟩) (i + m) cap) (cur.take i ++ ys)):=by
   have s2:=s1.out.set (o:=i + m) (vs:=List.replicate (n - (i + m)) (Value.string ⟨#[]⟩)) (by rw [E1.out]; simp; omega)
   rw [hW2.out] at s2
   have hy:=HM.out
   have t2 : Tch (fun k => k = g) W1 W2:=by rw [<- hW2.out]; exact zb9 g _ _ _
   have e3:=E1.out
   refine ⟨s2.owV HBG.out (by simp at e3 ⊢; omega) (by unfold maxLen; exact HMX.out) HROOM.out ?_,T1.out.trans t2 (fun k _ e => by rw [e]; rfl),fun k hk => .inl hk⟩
   rw [zl9 (by simp at e3 ⊢; omega),<- List.append_assoc,zl9 (by simp; omega)]
  clear cl hlt
  have cl2:=HCL.out
  go_enter Tryz.func163,Tryz.ntmps163
  go_wp2_with (first | (at_builtin; refine wpList_append_room1 _ rfl (.tmp 32) (.tmp 33) 91 91 rfl 9 (Value.string ⟨#[]⟩) 16 Tryz.underlying91 (by kernel_rfl) g 0 i cap rfl _ rfl m ys HS.out HROOM.out HGR.out (fun j hj => HR.out.fz _) ?_; rw [Nat.zero_add,HW1.out]))
  go_ret
  exact ⟨_,rfl,FIN2.out⟩
 ·have hl6 : decide ((i : Int) + (m : Int) < (n : Int)) = false:=by rw [zn4]; omega
  have hl7 : decide (i + m < n) = false:=by rw [zn4]; omega
  clear hlt
  go_enter Tryz.func163,Tryz.ntmps163
  go_wp2_with (at_builtin; refine wpList_append_room1 _ rfl (.tmp 32) (.tmp 33) 91 91 rfl 9 (Value.string ⟨#[]⟩) 16 Tryz.underlying91 (by kernel_rfl) g 0 i cap rfl _ rfl m ys HS.out HROOM.out HGR.out (fun j hj => HR.out.fz _) ?_; rw [Nat.zero_add,HW1.out])
  go_ret
  exact ⟨_,rfl,FIN.out⟩
theorem zpp9 (w : World) (a : Option Addr) (c : Nat) (ty : TypeId) : (Builtin.clear_ #[91] ty #[.slice a 0 c]).run Tryz.prog w = .ok (.tuple #[]) w:=by
 cases a <;> simp [Builtin.clear_,run_underlying Tryz.underlying91,zvS1,Result.andThen,Builtin.zeroCells,storeCells]
theorem InS.shape {u : Value} {ys : List Value} {g : Nat} (h : InS w u ys g) : ∃ a c,u = .slice a ys.length c:=by rcases h with ⟨rfl,rfl⟩ | ⟨gu,cu,src,rfl,_⟩ <;> exact ⟨_,_,rfl⟩
theorem InS.row {u : Value} {ys : List Value} {g : Nat} (h : InS w u ys g) (h0 : 0 < ys.length) : ∃ gu cu src,u = .slice (some ⟨gu,0,none⟩) ys.length cu /\ Rw 9 w gu src /\ gu ≠ g /\ src.take ys.length = ys /\ ys.length <= src.length:=by
 rcases h with ⟨rfl,rfl⟩ | h
 ·simp at h0
 ·exact h
theorem zoj9 {g cap i : Nat} {cur : List Value} (hr : Rw 9 w g cur) (hi : i <= cur.length) : (Builtin.firstCells 1 i (.slice (some ⟨g,0,none⟩) i cap)).run Tryz.prog w.drew = .ok (cur.take i).toArray w.drew:=
 run_firstCells_some w.drew 1 i ⟨g,0,none⟩ i cap (cur.take i) (by rw [List.length_take]; omega) (fun j v hj => by
   rw [Addr.add_lit,Nat.zero_add,hr.drew.cell]
   rw [List.getElem?_take] at hj
   split at hj
   ·exact hj
   ·cases hj)
theorem infES : ∃ i0,Tryz.prog.info? 9 = some i0 /\ i0.zero = some (Value.string ⟨#[]⟩) /\ i0.size = 1 /\ i0.bytes = 16:=info_parts (z:=(Value.string ⟨#[]⟩)) (size:=1) (bytes:=16) (by kernel_rfl)
theorem repBS (g cap i n : Nat) (u : Value) (cur ys : List Value) (hr : Rw 9 w g cur) (hu : InS w u ys g) (h1 : ∀ y ∈ ys,y.oneCell' = true) (hi : i < n) (hn : n <= cap) (hc : cur.length = cap) (hm : cap <= 9223372036854775807) (hroom : cap < i + ys.length) (hys : ys.length <= 1000000) (hnl : n <= 1000000) (hB : B <= w.heap.size) :
  Calls Tryz.prog 163 #[.slice (some ⟨g,0,none⟩) n cap,.int .i64 (i : Int),.int .i64 (n : Int),u] w fun e w' => ∃ v',e = .returned v' /\ Trn B 9 w w' (.slice (some ⟨g,0,none⟩) n cap) v' (cur.take i ++ ys):=by
 obtain ⟨i0,hi0,hz0,hzs,hzb⟩:=infES
 have hs:=hu.src h1
 obtain ⟨ua,uc,rfl⟩:=hu.shape
 obtain ⟨m,hm2⟩:=exN ys.length
 have HM:=hideN hm2
 rw [hm2] at hs hroom hys ⊢
 have hrun : ∀ ty,(Builtin.append_ #[91,91] ty #[.slice (some ⟨g,0,none⟩) i cap,.slice ua m uc]).run Tryz.prog w = _:=fun ty =>
  run_append_grow_src w 91 91 ty 9 i0 _ Tryz.underlying91 hi0 hz0 (some ⟨g,0,none⟩) i cap (cur.take i) (by rw [hzs]; exact zoj9 hr (by omega)) _ m ys (by rw [hzs]; exact hs) hroom (by omega) (by rw [hzb]; exact growslice_fits hroom (by omega))
 obtain ⟨G,hG⟩:=exN (grownCap w (i + m) cap 9)
 have hgc:=grownCap_ge w (i + m) cap 9
 have hgm:=grownCap_le_maxLen w (i + m) cap 9 (by unfold maxLen; omega)
 rw [hG] at hrun hgc hgm
 have er : (((cur.take i ++ ys).toArray ++ Builtin.zeroCells ((Value.string ⟨#[]⟩) : Value).cells (G - (i + m)))) = (cur.take i ++ ys ++ List.replicate (G - (i + m)) (Value.string ⟨#[]⟩)).toArray:=by
  rw [<- zm9 (z:=(Value.string ⟨#[]⟩)) rfl]
  simp
 rw [er] at hrun
 have HR2:=hideN hrun
 have FIN : Hid (Trn B 9 w (w.drew.alloc (.cells (cur.take i ++ ys ++ List.replicate (G - (i + m)) (Value.string ⟨#[]⟩)).toArray 9)) (.slice (some ⟨g,0,none⟩) n cap) (.slice (some ⟨w.heap.size,0,none⟩) (i + m) G) (cur.take i ++ ys)):=by
  refine ⟨Rw.owV (cur:=cur.take i ++ ys ++ List.replicate (G - (i + m)) (Value.string ⟨#[]⟩)) (Rw.new w.drew _ _) hB (by simp; omega) hgm hgc (by rw [zl9 (by simp; omega)]),(zp9 _ w).trans (zbg9 _ _ _) (fun _ _ e => e),fun k hk => .inr (by simp [Value.ownBlock] at hk; omega)⟩
 obtain ⟨W1,hW1⟩:=exN (w.drew.alloc (.cells (cur.take i ++ ys ++ List.replicate (G - (i + m)) (Value.string ⟨#[]⟩)).toArray 9))
 rw [hW1] at HR2 FIN
 have hz2 : ¬ ((i : Int) = (n : Int)):=by omega
 have hin : (i : Int) <= (n : Int):=by omega
 have hic : (i : Int) <= (cap : Int):=by omega
 have hl6 : decide ((i : Int) + (m : Int) < (n : Int)) = false:=by rw [zn4]; omega
 have hl7 : decide (i + m < n) = false:=by rw [zn4]; omega
 clear hs hu hr hrun er hm2 hW1 hG hgc hgm hm hroom hys hi0 hz0 hzs hzb
 go_enter Tryz.func163,Tryz.ntmps163
 go_wp2_with (at_builtin; refine Lib.wpList_append_run _ rfl _ _ _ _ rfl _ _ rfl rfl _ _ (HR2.out _) ?_)
 go_ret
 exact ⟨_,rfl,FIN.out⟩
def MemCS (B NB g cap i j n m T : Nat) (u : Value) (cur ys : List Value) (w : World) : Prop:=
  ∃ G W1 W2 W3,(∀ ty,(Builtin.append_ #[91,3] ty #[.slice (some ⟨g,0,none⟩) i cap,.int .i64 ((T : Int) - (i : Int))]).run Tryz.prog w = .ok (.slice (some ⟨NB,0,none⟩) (T) G) W1) /\ (∀ ty,(Builtin.copy_ #[91,91] ty #[.slice (some ⟨NB,i,none⟩) (T - i) (G - i),u]).run Tryz.prog W1 = .ok (goInt m) W2) ∧
   (∀ ty,(Builtin.copy_ #[91,91] ty #[.slice (some ⟨NB,i + m,none⟩) (T - (i + m)) (G - (i + m)),.slice (some ⟨g,j,none⟩) (n - j) (cap - j)]).run Tryz.prog W2.drew = .ok (goInt ((n - j : Nat) : Int)) W3) ∧
   Trn B 9 w W3 (.slice (some ⟨g,0,none⟩) n cap) (.slice (some ⟨NB,0,none⟩) (T) G) (cur.take i ++ (ys ++ (cur.drop j).take (n - j))) /\ T <= G /\ G <= 9223372036854775807
theorem memCS (g cap i j n : Nat) (u : Value) (cur ys : List Value) (hr : Rw 9 w g cur) (hu : InS w u ys g) (h1 : ∀ y ∈ ys,y.oneCell' = true) (h1c : ∀ y ∈ (cur.drop j).take (n - j),y.oneCell' = true) (hi : i < j) (hj : j < n) (hn : n <= cap) (hc : cur.length = cap) (hm : cap <= 9223372036854775807) (hroom : cap < i + ys.length + (n - j)) (hys : ys.length <= 1000000) (hnl : n <= 1000000) (hB : B <= w.heap.size) (NB m T : Nat) (hNB : w.heap.size = NB) (hm2 : ys.length = m) (hT : i + m + (n - j) = T) : MemCS B NB g cap i j n m T u cur ys w:=by
 obtain ⟨i0,hi0,hz0,hzs,hzb⟩:=infES
 obtain ⟨gu,uc,src,rfl,hru,hne,hst,hsl⟩:=hu.row (by omega)
 have h1s : ∀ y ∈ src.take m,y.oneCell' = true:=by rw [<- hm2,hst]; exact h1
 rw [hm2] at hroom hys hst hsl ⊢
 rw [hT] at hroom
 have hrz : ∀ ty,(Builtin.append_ #[91,3] ty #[.slice (some ⟨g,0,none⟩) i cap,.int .i64 (T - i : Nat)]).run Tryz.prog w = _:=fun ty =>
  Lib.run_append_grow_zeros w 91 3 ty 9 i0 _ .i64 .i64 Tryz.underlying91 Tryz.underlying3 hi0 hz0 (some ⟨g,0,none⟩) i cap (cur.take i) (by rw [hzs]; exact zoj9 hr (by omega)) (T - i) (by omega) (by omega) (by omega) (by omega) (by rw [hzb]; omega) (by rw [hzb]; exact growslice_fits (by omega) (by omega))
 have hik : i + (T - i) = T:=by omega
 rw [hik] at hrz
 obtain ⟨G,hG⟩:=exN (grownCap w T cap 9)
 have hgc:=grownCap_ge w T cap 9
 have hgm:=grownCap_le_maxLen w T cap 9 (by unfold maxLen; omega)
 rw [hG] at hrz hgc hgm
 have er : ((cur.take i).toArray ++ Builtin.zeroCells ((Value.string ⟨#[]⟩) : Value).cells (T - i) ++ Builtin.zeroCells ((Value.string ⟨#[]⟩) : Value).cells (G - T)) = (cur.take i ++ (List.replicate (T - i) (Value.string ⟨#[]⟩) ++ List.replicate (G - T) (Value.string ⟨#[]⟩))).toArray:=by
  rw [<- zm9 (z:=(Value.string ⟨#[]⟩)) rfl,<- zm9 (z:=(Value.string ⟨#[]⟩)) rfl]
  simp
 rw [er] at hrz
 obtain ⟨Zs,hZs⟩:=exN (List.replicate (T - i) (Value.string ⟨#[]⟩) ++ List.replicate (G - T) (Value.string ⟨#[]⟩))
 have lZ : Zs.length = G - i:=by rw [<- hZs]; simp; omega
 rw [hZs] at hrz
 have r0 : Rw 9 (w.drew.alloc (.cells (cur.take i ++ Zs).toArray 9)) w.heap.size (cur.take i ++ Zs):=Rw.new w.drew _ _
 have ta : Tch (fun k => k = w.heap.size) w (w.drew.alloc (.cells (cur.take i ++ Zs).toArray 9)):=(zp9 _ w).trans (zbg9 _ _ _) (fun _ _ e => e)
 obtain ⟨W1,hW1⟩:=exN (w.drew.alloc (.cells (cur.take i ++ Zs).toArray 9))
 rw [hW1] at hrz r0 ta
 have hgN : g ≠ w.heap.size:=by have:=hr.lt; omega
 have hguN : gu ≠ w.heap.size:=by have:=hru.lt; omega
 have hlc : (cur.take i ++ Zs).length = G:=by simp; omega
 have ru1:=hru.tch ta hguN
 have cp1:=fun ty => copyS r0 ru1 i 0 m (T - i) (G - i) m uc (by simp only [Nat.min_def]; split <;> omega) (by rw [hlc]; omega) (by omega) (by rw [List.drop_zero]; exact h1s) ty
 have s1:=r0.set (o:=i) (vs:=(src.drop 0).take m) (by rw [hlc,List.drop_zero,List.length_take]; omega)
 rw [List.drop_zero,hst] at s1
 simp only [List.drop_zero,hst] at cp1
 have tb:=ta.trans (zb9 w.heap.size ys i W1) (fun _ _ e => e)
 obtain ⟨W2,hW2⟩:=exN (W1.setCells w.heap.size i ys)
 rw [hW2] at s1 tb
 simp only [hW2] at cp1
 have rg2:=hr.tch tb hgN
 obtain ⟨c2,hc2⟩:=exN ((cur.take i ++ Zs).take i ++ (ys ++ (cur.take i ++ Zs).drop (i + ys.length)))
 rw [hc2] at s1
 have lc2 : c2.length = G:=by rw [<- hc2]; simp; omega
 have cp2:=fun ty => copyS s1.drew rg2.drew (i + m) j (n - j) (T - (i + m)) (G - (i + m)) (n - j) (cap - j) (by simp only [Nat.min_def]; split <;> omega) (by omega) (by omega) h1c ty
 have s2:=s1.drew.set (o:=i + m) (vs:=(cur.drop j).take (n - j)) (by simp; omega)
 have td:=(tb.trans (zp9 _ W2) (fun _ _ e => e)).trans (zb9 w.heap.size ((cur.drop j).take (n - j)) (i + m) W2.drew) (fun _ _ e => e)
 subst hNB
 refine ⟨G,W1,W2,_,by rw [show (T : Int) - (i : Int) = ((T - i : Nat) : Int) by omega]; exact hrz,cp1,cp2,⟨s2.owV hB (by simp; omega) hgm hgc ?_,td.mono (fun k hk e => by omega),fun k hk => .inr (by simp [Value.ownBlock] at hk; omega)⟩,by omega,by unfold maxLen at hgm; omega⟩
 have e1 : c2.take (i + m) = cur.take i ++ ys:=by
  rw [<- hc2,zl9 (a:=cur.take i) (by simp; omega),<- List.append_assoc,zl9 (by simp; omega)]
 rw [e1,show cur.take i ++ ys ++ ((cur.drop j).take (n - j) ++ c2.drop (i + m + ((cur.drop j).take (n - j)).length)) = (cur.take i ++ (ys ++ (cur.drop j).take (n - j))) ++ c2.drop (i + m + ((cur.drop j).take (n - j)).length) by simp,zl9 (by simp; omega)]
end
section
variable {B : Nat} {w : World}
theorem repCS (g cap i j n : Nat) (u : Value) (cur ys : List Value) (hr : Rw 9 w g cur) (hu : InS w u ys g) (h1 : ∀ y ∈ ys,y.oneCell' = true) (h1c : ∀ y ∈ (cur.drop j).take (n - j),y.oneCell' = true) (hi : i < j) (hj : j < n) (hn : n <= cap) (hc : cur.length = cap) (hm : cap <= 9223372036854775807) (hroom : cap < i + ys.length + (n - j)) (hys : ys.length <= 1000000) (hnl : n <= 1000000) (hB : B <= w.heap.size) :
  Calls Tryz.prog 163 #[.slice (some ⟨g,0,none⟩) n cap,.int .i64 (i : Int),.int .i64 (j : Int),u] w fun e w' => ∃ v',e = .returned v' /\ Trn B 9 w w' (.slice (some ⟨g,0,none⟩) n cap) v' (cur.take i ++ (ys ++ (cur.drop j).take (n - j))):=by
 obtain ⟨ua,uc,rfl⟩:=hu.shape
 obtain ⟨NB,hNB⟩:=exN w.heap.size
 obtain ⟨m,hm2⟩:=exN ys.length
 obtain ⟨T,hT⟩:=exN (i + m + (n - j))
 have HMEM : Hid (∀ W,(∃ q,W = w.drewN q) -> MemCS B NB g cap i j n m T (.slice ua ys.length uc) cur ys W):=fun W hW => by
  obtain ⟨q,rfl⟩:=hW
  exact memCS (B:=B) (w:=w.drewN q) g cap i j n (.slice ua ys.length uc) cur ys hr (by exact hu) h1 h1c hi hj hn hc hm hroom hys hnl hB NB m T hNB hm2 hT
 clear hNB
 have HM:=hideN hm2
 rw [hm2] at hroom hys HMEM ⊢
 have HTT:=hideN hT
 have z1 : ¬ ((i : Int) = (j : Int)):=by omega
 have z2 : (i : Int) <= (j : Int):=by omega
 have z3 : (j : Int) <= (cap : Int):=by omega
 have z4 : ¬ ((j : Int) = (n : Int)):=by omega
 have z5 : (i : Int) <= (cap : Int):=by omega
 have z6 : (j : Int) <= (n : Int):=by omega
 have z7 : ¬ (cap = j):=by omega
 have z8 : ¬ (cap = i):=by omega
 have mixed : Tryz.prog.follows .mixedOrders = true:=by kernel_rfl
 have g3 : (i : Int) <= (T : Int):=by omega
 have g4 : (i : Int) + (m : Int) <= (T : Int):=by omega
 have g5 : ((i + m : Nat) : Int) <= (T : Int):=by omega
 have g6 : (0 : Int) <= (i : Int) + (m : Int):=by omega
 have g7 : ((i : Int) + (m : Int)).toNat = i + m:=by omega
 have g8 : i <= T:=by omega
 have t1 : (i : Int) + (m : Int) + ((n - j : Nat) : Int) = ((T : Nat) : Int):=by omega
 have t2 : T <= 4611686018427387904:=by omega
 have t3 : (T : Int) - (i : Int) = ((T - i : Nat) : Int):=by omega
 have w3 : (T : Int) > (cap : Int):=by omega
 have w4 : (cap : Int) < (T : Int):=by omega
 have t4 : -4611686018427387904 <= (i : Int) + (m : Int) /\ (i : Int) + (m : Int) <= 4611686018427387904:=by omega
 have t5 : -4611686018427387904 <= (T : Int) - (i : Int) /\ (T : Int) - (i : Int) <= 4611686018427387904:=by omega
 have w6:=zs9 t1 t2
 have w7:=zbf9 t5.1 t5.2
 have w8:=zbf9 t4.1 t4.2
 clear t1 t2 t3 t4 t5
 clear hu hr hm2 hT hroom hys h1 h1c hm hc
 go_enter Tryz.func163,Tryz.ntmps163
 go_wp2_with fail
 go_quiet (fail)
 obtain ⟨W,hW⟩:=exN (w.drewN nq)
 obtain ⟨G,W1,W2,W3,hA,hC1,hC2,hF,hg1,hg2⟩:=HMEM.out W ⟨nq,hW.symm⟩
 have HF : Hid (Trn B 9 w W3 (.slice (some ⟨g,0,none⟩) n cap) (.slice (some ⟨NB,0,none⟩) T G) (cur.take i ++ (ys ++ (cur.drop j).take (n - j)))):=by
  have t0 : Tch (fun k => (Value.slice (some ⟨g,0,none⟩) n cap).ownBlock = some k) w W:=by rw [<- hW]; exact ⟨rfl,rfl,rfl,zn6 _,fun _ _ _ => rfl⟩
  refine ⟨hF.ow,t0.trans hF.tc (fun _ _ e => e),fun k hk => (hF.fs k hk).imp id (fun e => ?_)⟩
  rw [<- hW] at e
  exact e
 have HA:=hideN hA
 have HC1:=hideN hC1
 have HC2:=hideN hC2
 have g1 : ¬ (G = i):=by have:=HTT.out; clear w6 w7 w8; omega
 have g2 : ¬ (G = i + m):=by have:=HTT.out; clear w6 w7 w8; omega
 rw [hW]
 clear hA hC1 hC2 hF HMEM hW
 go_wp2_with (first
  | (at_builtin; refine Lib.wpList_append_run _ rfl _ _ _ _ rfl _ _ rfl rfl _ _ (HA.out _) ?_)
  | (with_reducible (show wpList _ _ _ (Oper.mk _ (Op.call _) _ _ _ _ :: _) _ _); refine wpList_copy_runI _ rfl (.tmp 70) (.tmp 71) 91 91 rfl _ _ rfl rfl (HC1.out _) ?_))
 go_region_law_o (refine step_copy_runI rfl (.tmp 78) (.tmp 81) 91 91 rfl (.slice (some ⟨NB,i + m,none⟩) (T - (i + m)) (G - (i + m))) (.slice (some ⟨g,j,none⟩) (n - j) (cap - j)) (by simp [Act.eval,Act.put]) (by simp [Act.eval,Act.put]) (HC2.out _) ?_)
 go_wp2_with fail
 go_ret
 exact ⟨_,rfl,HF.out⟩
end
section
variable {B : Nat} {w : World}
def MemDS (B g cap i j n m T : Nat) (u : Value) (cur ys : List Value) (w : World) : Prop:=
  ∃ W2 W3 W4,(∀ ty,(Builtin.copy_ #[91,91] ty #[.slice (some ⟨g,i,none⟩) (T - i) (cap - i),u]).run Tryz.prog w = .ok (goInt m) W2) ∧
   (∀ ty,(Builtin.copy_ #[91,91] ty #[.slice (some ⟨g,i + m,none⟩) (T - (i + m)) (cap - (i + m)),.slice (some ⟨g,j,none⟩) (n - j) (cap - j)]).run Tryz.prog W2.drew = .ok (goInt ((n - j : Nat) : Int)) W3) ∧
   (T < n -> ∀ ty,(Builtin.clear_ #[91] ty #[.slice (some ⟨g,T,none⟩) (n - T) (cap - T)]).run Tryz.prog W3 = .ok (.tuple #[]) W4) /\ (¬ T < n -> W4 = W3) ∧
   Trn B 9 w W4 (.slice (some ⟨g,0,none⟩) n cap) (.slice (some ⟨g,0,none⟩) T cap) (cur.take i ++ (ys ++ (cur.drop j).take (n - j)))
theorem memDS (g cap i j n m T : Nat) (u : Value) (cur ys : List Value) (hr : Rw 9 w g cur) (hu : InS w u ys g) (h1 : ∀ y ∈ ys,y.oneCell' = true) (h1c : ∀ y ∈ (cur.drop j).take (n - j),y.oneCell' = true) (hi : i < j) (hj : j < n) (hn : n <= cap) (hc : cur.length = cap) (hm : cap <= 9223372036854775807) (hfit : i + m <= j) (hB : B <= g) (hm2 : ys.length = m) (hT : i + m + (n - j) = T) : MemDS B g cap i j n m T u cur ys w:=by
 have s1:=hr.set (o:=i) (vs:=ys) (by omega)
 have cp1 : ∀ ty,(Builtin.copy_ #[91,91] ty #[.slice (some ⟨g,i,none⟩) (T - i) (cap - i),u]).run Tryz.prog w = .ok (goInt m) (w.setCells g i ys):=fun ty => by
  rcases hu with ⟨rfl,rfl⟩ | ⟨gu,uc,src,rfl,hru,hne,hst,hsl⟩
  ·have : m = 0:=by rw [<- hm2]; rfl
   subst this
   exact zrw9 w _ _ _ ty
  ·rw [hm2] at hst hsl ⊢
   have:=copyS hr hru i 0 m (T - i) (cap - i) m uc (by simp only [Nat.min_def]; split <;> omega) (by omega) (by omega) (by rw [List.drop_zero,hst]; exact h1) ty
   rw [List.drop_zero,hst] at this
   exact this
 obtain ⟨c2,hc2⟩:=exN (cur.take i ++ (ys ++ cur.drop (i + ys.length)))
 rw [hc2] at s1
 have lc2 : c2.length = cap:=by rw [<- hc2]; simp; omega
 have ed : c2.drop j = cur.drop j:=by
  rw [<- hc2,<- List.append_assoc,List.drop_append,List.drop_of_length_le (by simp; omega),List.nil_append,List.drop_drop]
  congr 1
  simp
  omega
 have cp2:=fun ty => copyS s1.drew s1.drew (i + m) j (n - j) (T - (i + m)) (cap - (i + m)) (n - j) (cap - j) (by simp only [Nat.min_def]; split <;> omega) (by omega) (by omega) (by rw [ed]; exact h1c) ty
 have s2:=s1.drew.set (o:=i + m) (vs:=(c2.drop j).take (n - j)) (by rw [ed]; simp; omega)
 rw [ed] at s2
 simp only [ed] at cp2
 obtain ⟨c3,hc3⟩:=exN (c2.take (i + m) ++ ((cur.drop j).take (n - j) ++ c2.drop (i + m + ((cur.drop j).take (n - j)).length)))
 have lj : ((cur.drop j).take (n - j)).length = n - j:=by simp; omega
 rw [hc3] at s2
 have lc3 : c3.length = cap:=by rw [<- hc3]; simp; omega
 have et : c3.take T = cur.take i ++ (ys ++ (cur.drop j).take (n - j)):=by
  have e1 : c2.take (i + m) = cur.take i ++ ys:=by rw [<- hc2,<- List.append_assoc,zl9 (by simp; omega)]
  rw [<- hc3,e1,show cur.take i ++ ys ++ ((cur.drop j).take (n - j) ++ c2.drop (i + m + ((cur.drop j).take (n - j)).length)) = (cur.take i ++ (ys ++ (cur.drop j).take (n - j))) ++ c2.drop (i + m + ((cur.drop j).take (n - j)).length) by simp,zl9 (by simp; omega)]
 have td : Tch (fun k => k = g) w ((w.setCells g i ys).drew.setCells g (i + m) ((cur.drop j).take (n - j))):=((zb9 g _ _ _).trans (zp9 _ _) (fun _ _ e => e)).trans (zb9 g _ _ _) (fun _ _ e => e)
 by_cases ht : T < n
 ·have cl:=fun ty => clearS s2 T (n - T) (cap - T) (by omega) (by omega) ty
  have s3:=s2.set (o:=T) (vs:=List.replicate (n - T) (Value.string ⟨#[]⟩)) (by simp; omega)
  refine ⟨_,_,_,cp1,cp2,fun _ => cl,fun e => absurd ht e,s3.owV hB (by simp; omega) (by unfold maxLen; exact hm) (by omega) ?_,(td.trans (zb9 g _ _ _) (fun _ _ e => e)).mono (fun k _ e => by rw [e]; rfl),fun k hk => .inl hk⟩
  rw [zl9 (by simp; omega),et]
 ·exact ⟨_,_,_,cp1,cp2,fun e => absurd e ht,fun _ => rfl,s2.owV hB lc3 (by unfold maxLen; exact hm) (by omega) et,td.mono (fun k _ e => by rw [e]; rfl),fun k hk => .inl hk⟩
theorem repDS (g cap i j n : Nat) (u : Value) (cur ys : List Value) (hr : Rw 9 w g cur) (hu : InS w u ys g) (h1 : ∀ y ∈ ys,y.oneCell' = true) (h1c : ∀ y ∈ (cur.drop j).take (n - j),y.oneCell' = true) (hi : i < j) (hj : j < n) (hn : n <= cap) (hc : cur.length = cap) (hm : cap <= 9223372036854775807) (hfit : i + ys.length <= j) (hnl : n <= 1000000) (hB : B <= g) :
  Calls Tryz.prog 163 #[.slice (some ⟨g,0,none⟩) n cap,.int .i64 (i : Int),.int .i64 (j : Int),u] w fun e w' => ∃ v',e = .returned v' /\ Trn B 9 w w' (.slice (some ⟨g,0,none⟩) n cap) v' (cur.take i ++ (ys ++ (cur.drop j).take (n - j))):=by
 obtain ⟨ua,uc,hus⟩:=hu.shape
 obtain ⟨m,hm2⟩:=exN ys.length
 obtain ⟨T,hT⟩:=exN (i + m + (n - j))
 rw [hm2] at hus
 subst hus
 rw [hm2] at hfit
 have HMEM : Hid (∀ W,(∃ q,W = w.drewN q) -> MemDS B g cap i j n m T (.slice ua m uc) cur ys W):=fun W hW => by
  obtain ⟨q,rfl⟩:=hW
  exact memDS (B:=B) (w:=w.drewN q) g cap i j n m T (.slice ua m uc) cur ys hr (by exact hu) h1 h1c hi hj hn hc hm hfit hB hm2 hT
 have mixed : Tryz.prog.follows .mixedOrders = true:=by kernel_rfl
 have z1 : ¬ ((i : Int) = (j : Int)):=by omega
 have z2 : (i : Int) <= (j : Int):=by omega
 have z3 : (j : Int) <= (cap : Int):=by omega
 have z4 : ¬ ((j : Int) = (n : Int)):=by omega
 have z5 : (i : Int) <= (cap : Int):=by omega
 have z6 : (j : Int) <= (n : Int):=by omega
 have z7 : ¬ (cap = j):=by omega
 have z8 : ¬ (cap = i):=by omega
 have z9 : ¬ (cap = i + m):=by omega
 have g3 : (i : Int) <= (T : Int):=by omega
 have g4 : (i : Int) + (m : Int) <= (T : Int):=by omega
 have g6 : (0 : Int) <= (i : Int) + (m : Int):=by omega
 have g7 : ((i : Int) + (m : Int)).toNat = i + m:=by omega
 have g12 : (T : Int) <= (cap : Int):=by omega
 have t1 : (i : Int) + (m : Int) + ((n - j : Nat) : Int) = ((T : Nat) : Int):=by omega
 have t2 : T <= 4611686018427387904:=by omega
 have w3 : ¬ ((T : Int) > (cap : Int)):=by omega
 have w4 : decide ((cap : Int) < (T : Int)) = false:=by rw [zn4]; omega
 have w5 : decide (cap < T) = false:=by rw [zn4]; omega
 have t4 : -4611686018427387904 <= (i : Int) + (m : Int) /\ (i : Int) + (m : Int) <= 4611686018427387904:=by omega
 have f1 : (i : Int) + (m : Int) <= (j : Int):=by omega
 have f2 : decide ((i : Int) + (m : Int) <= (j : Int)) = true:=by rw [decide_eq_true_iff]; omega
 have f3 : T <= n:=by omega
 have cl0:=fun (a : Option Addr) (c : Nat) (ty : TypeId) (W : World) => zpp9 W a c ty
 have w6:=zs9 t1 t2
 have w8:=zbf9 t4.1 t4.2
 clear t1 t2 t4 hu hr hm2 h1 h1c hm hc
 by_cases ht : T < n
 ·have f4 : (T : Int) <= (n : Int):=by clear w6 w8; omega
  have f5 : ¬ (cap = T):=by clear w6 w8; omega
  clear hT hfit cl0 f3 hnl
  go_enter Tryz.func163,Tryz.ntmps163
  go_wp2_with fail
  go_quiet (fail)
  obtain ⟨W,hW⟩:=exN (w.drewN nq)
  obtain ⟨W2,W3,W4,hC1,hC2,hC3,_,hF⟩:=HMEM.out W ⟨nq,hW.symm⟩
  have HF : Hid (Trn B 9 w W4 (.slice (some ⟨g,0,none⟩) n cap) (.slice (some ⟨g,0,none⟩) T cap) (cur.take i ++ (ys ++ (cur.drop j).take (n - j)))):=by
   have t0 : Tch (fun k => (Value.slice (some ⟨g,0,none⟩) n cap).ownBlock = some k) w W:=by rw [<- hW]; exact ⟨rfl,rfl,rfl,zn6 _,fun _ _ _ => rfl⟩
   refine ⟨hF.ow,t0.trans hF.tc (fun _ _ e => e),fun k hk => .inl hk⟩
  have HC1:=hideN hC1
  have HC2:=hideN hC2
  have cl:=hC3 ht
  rw [hW]
  clear hC1 hC2 hC3 hF HMEM hW ht
  go_wp2_with (with_reducible (show wpList _ _ _ (Oper.mk _ (Op.call _) _ _ _ _ :: _) _ _); refine wpList_copy_runI _ rfl (.tmp 95) (.tmp 96) 91 91 rfl _ _ rfl rfl (HC1.out _) ?_)
  go_region_law_o (refine step_copy_runI rfl (.tmp 103) (.tmp 106) 91 91 rfl (.slice (some ⟨g,i + m,none⟩) (T - (i + m)) (cap - (i + m))) (.slice (some ⟨g,j,none⟩) (n - j) (cap - j)) (by simp [Act.eval,Act.put]) (by simp [Act.eval,Act.put]) (HC2.out _) ?_)
  go_wp2_with fail
  go_ret
  exact ⟨_,rfl,HF.out⟩
 ·obtain rfl : T = n:=by clear w6 w8; omega
  have HCAP : cap = T ∨ ¬ cap = T:=by clear w6 w8; omega
  clear hT hfit f3 hnl
  rcases HCAP with rfl | hct
  ·go_enter Tryz.func163,Tryz.ntmps163
   go_wp2_with fail
   go_quiet (fail)
   obtain ⟨W,hW⟩:=exN (w.drewN nq)
   obtain ⟨W2,W3,W4,hC1,hC2,_,hC3,hF⟩:=HMEM.out W ⟨nq,hW.symm⟩
   have HF : Hid (Trn B 9 w W3 (.slice (some ⟨g,0,none⟩) cap cap) (.slice (some ⟨g,0,none⟩) cap cap) (cur.take i ++ (ys ++ (cur.drop j).take (cap - j)))):=by
    have t0 : Tch (fun k => (Value.slice (some ⟨g,0,none⟩) cap cap).ownBlock = some k) w W:=by rw [<- hW]; exact ⟨rfl,rfl,rfl,zn6 _,fun _ _ _ => rfl⟩
    rw [<- hC3 ht]
    refine ⟨hF.ow,t0.trans hF.tc (fun _ _ e => e),fun k hk => .inl hk⟩
   have HC1:=hideN hC1
   have HC2:=hideN hC2
   rw [hW]
   clear hC1 hC2 hC3 hF HMEM hW ht
   go_wp2_with (with_reducible (show wpList _ _ _ (Oper.mk _ (Op.call _) _ _ _ _ :: _) _ _); refine wpList_copy_runI _ rfl (.tmp 95) (.tmp 96) 91 91 rfl _ _ rfl rfl (HC1.out _) ?_)
   go_region_law_o (refine step_copy_runI rfl (.tmp 103) (.tmp 106) 91 91 rfl (.slice (some ⟨g,i + m,none⟩) (cap - (i + m)) (cap - (i + m))) (.slice (some ⟨g,j,none⟩) (cap - j) (cap - j)) (by simp [Act.eval,Act.put]) (by simp [Act.eval,Act.put]) (HC2.out _) ?_)
   go_wp2_with fail
   go_ret
   exact ⟨_,rfl,HF.out⟩
  ·go_enter Tryz.func163,Tryz.ntmps163
   go_wp2_with fail
   go_quiet (fail)
   obtain ⟨W,hW⟩:=exN (w.drewN nq)
   obtain ⟨W2,W3,W4,hC1,hC2,_,hC3,hF⟩:=HMEM.out W ⟨nq,hW.symm⟩
   have HF : Hid (Trn B 9 w W3 (.slice (some ⟨g,0,none⟩) T cap) (.slice (some ⟨g,0,none⟩) T cap) (cur.take i ++ (ys ++ (cur.drop j).take (T - j)))):=by
    have t0 : Tch (fun k => (Value.slice (some ⟨g,0,none⟩) T cap).ownBlock = some k) w W:=by rw [<- hW]; exact ⟨rfl,rfl,rfl,zn6 _,fun _ _ _ => rfl⟩
    rw [<- hC3 ht]
    refine ⟨hF.ow,t0.trans hF.tc (fun _ _ e => e),fun k hk => .inl hk⟩
   have HC1:=hideN hC1
   have HC2:=hideN hC2
   rw [hW]
   clear hC1 hC2 hC3 hF HMEM hW ht
   go_wp2_with (with_reducible (show wpList _ _ _ (Oper.mk _ (Op.call _) _ _ _ _ :: _) _ _); refine wpList_copy_runI _ rfl (.tmp 95) (.tmp 96) 91 91 rfl _ _ rfl rfl (HC1.out _) ?_)
   go_region_law_o (refine step_copy_runI rfl (.tmp 103) (.tmp 106) 91 91 rfl (.slice (some ⟨g,i + m,none⟩) (T - (i + m)) (cap - (i + m))) (.slice (some ⟨g,j,none⟩) (T - j) (cap - j)) (by simp [Act.eval,Act.put]) (by simp [Act.eval,Act.put]) (HC2.out _) ?_)
   go_wp2_with fail
   go_ret
   exact ⟨_,rfl,HF.out⟩
end
section
variable {B : Nat} {w : World}
def MemES (B g cap i j n m T : Nat) (u : Value) (cur ys : List Value) (w : World) : Prop:=
  ∃ W2 W3,(∀ W,W = w -> (callFunc 83 #[.slice (some ⟨g,i + m,none⟩) (T - (i + m)) (cap - (i + m)),u]).run Tryz.prog W = .ok (.value (.bool false)) W) ∧
   (∀ ty,(Builtin.copy_ #[91,91] ty #[.slice (some ⟨g,i + m,none⟩) (T - (i + m)) (cap - (i + m)),.slice (some ⟨g,j,none⟩) (n - j) (cap - j)]).run Tryz.prog w.drew = .ok (goInt ((n - j : Nat) : Int)) W2) ∧
   (∀ ty,(Builtin.copy_ #[91,91] ty #[.slice (some ⟨g,i,none⟩) (T - i) (cap - i),u]).run Tryz.prog W2 = .ok (goInt m) W3) ∧
   Trn B 9 w W3 (.slice (some ⟨g,0,none⟩) n cap) (.slice (some ⟨g,0,none⟩) T cap) (cur.take i ++ (ys ++ (cur.drop j).take (n - j)))
theorem sizeS1 (w : World) : (Go.sizeOf 9).run Tryz.prog w = .ok 1 w:=by
 obtain ⟨i,hi,h⟩:=Option.map_eq_some_iff.1 infS1
 simp [sizeOf,typeInfo,hi,h]
theorem memES (g cap i j n m T : Nat) (u : Value) (cur ys : List Value) (hr : Rw 9 w g cur) (hu : InS w u ys g) (h1 : ∀ y ∈ ys,y.oneCell' = true) (h1c : ∀ y ∈ (cur.drop j).take (n - j),y.oneCell' = true) (hi : i < j) (hj : j < n) (hn : n <= cap) (hc : cur.length = cap) (hm : cap <= 9223372036854775807) (hfit : j < i + m) (hroom : T <= cap) (hB : B <= g) (hm2 : ys.length = m) (hT : i + m + (n - j) = T) : MemES B g cap i j n m T u cur ys w:=by
 obtain ⟨gu,uc,src,rfl,hru,hne,hst,hsl⟩:=hu.row (by omega)
 rw [hm2] at hst hsl ⊢
 have lj : ((cur.drop j).take (n - j)).length = n - j:=by simp; omega
 have cp1:=fun ty => copyS hr.drew hr.drew (i + m) j (n - j) (T - (i + m)) (cap - (i + m)) (n - j) (cap - j) (by simp only [Nat.min_def]; split <;> omega) (by omega) (by omega) h1c ty
 have s1:=hr.drew.set (o:=i + m) (vs:=(cur.drop j).take (n - j)) (by rw [lj]; omega)
 obtain ⟨c2,hc2⟩:=exN (cur.take (i + m) ++ ((cur.drop j).take (n - j) ++ cur.drop (i + m + ((cur.drop j).take (n - j)).length)))
 rw [hc2] at s1
 have lc2 : c2.length = cap:=by rw [<- hc2]; simp; omega
 have ta : Tch (fun k => k = g) w (w.drew.setCells g (i + m) ((cur.drop j).take (n - j))):=(zp9 _ w).trans (zb9 g _ _ _) (fun _ _ e => e)
 have ru1:=hru.tch ta hne
 have cp2:=fun ty => copyS s1 ru1 i 0 m (T - i) (cap - i) m uc (by simp only [Nat.min_def]; split <;> omega) (by omega) (by omega) (by rw [List.drop_zero,hst]; exact h1) ty
 simp only [List.drop_zero,hst] at cp2
 have s2:=s1.set (o:=i) (vs:=ys) (by omega)
 have hov : (callFunc 83 #[.slice (some ⟨g,i + m,none⟩) (T - (i + m)) (cap - (i + m)),.slice (some ⟨gu,0,none⟩) m uc]).run Tryz.prog w = .ok (.value (.bool false)) w:=by
  rw [run_callFunc_extern Tryz.func83 (by kernel_rfl) (by kernel_rfl) (by kernel_rfl) (e:=Extern.SlicesOverlaps.overlaps #[91,91] #[4]) (by kernel_rfl),
   Lib.run_overlaps_apart w 91 4 9 Tryz.underlying91 1 sizeS1 ⟨g,i + m,none⟩ ⟨gu,0,none⟩ (T - (i + m)) (cap - (i + m)) m uc (fun e => hne e.symm) 9 9 cur.length src.length hr.shape hru.shape (by omega) (hr.fz _) (hr.fz _)]
  rfl
 refine ⟨_,_,fun W hW => by rw [hW]; exact hov,cp1,cp2,s2.owV hB (by simp; omega) (by unfold maxLen; exact hm) hroom ?_,(ta.trans (zb9 g _ _ _) (fun _ _ e => e)).mono (fun k _ e => by rw [e]; rfl),fun k hk => .inl hk⟩
 have e1 : c2.take i = cur.take i:=by rw [<- hc2,List.take_append_of_le_length (by simp; omega),List.take_take,Nat.min_eq_left (by omega)]
 have e2 : c2.drop (i + ys.length) = (cur.drop j).take (n - j) ++ cur.drop (i + m + ((cur.drop j).take (n - j)).length):=by rw [<- hc2]; exact zjq9 (by simp; omega)
 rw [e1,e2,show cur.take i ++ (ys ++ ((cur.drop j).take (n - j) ++ cur.drop (i + m + ((cur.drop j).take (n - j)).length))) = (cur.take i ++ (ys ++ (cur.drop j).take (n - j))) ++ cur.drop (i + m + ((cur.drop j).take (n - j)).length) by simp,zl9 (by simp; omega)]
theorem repES (g cap i j n : Nat) (u : Value) (cur ys : List Value) (hr : Rw 9 w g cur) (hu : InS w u ys g) (h1 : ∀ y ∈ ys,y.oneCell' = true) (h1c : ∀ y ∈ (cur.drop j).take (n - j),y.oneCell' = true) (hi : i < j) (hj : j < n) (hn : n <= cap) (hc : cur.length = cap) (hm : cap <= 9223372036854775807) (hfit : j < i + ys.length) (hroom : i + ys.length + (n - j) <= cap) (hys : ys.length <= 1000000) (hnl : n <= 1000000) (hB : B <= g) :
  Calls Tryz.prog 163 #[.slice (some ⟨g,0,none⟩) n cap,.int .i64 (i : Int),.int .i64 (j : Int),u] w fun e w' => ∃ v',e = .returned v' /\ Trn B 9 w w' (.slice (some ⟨g,0,none⟩) n cap) v' (cur.take i ++ (ys ++ (cur.drop j).take (n - j))):=by
 obtain ⟨ua,uc,hus⟩:=hu.shape
 obtain ⟨m,hm2⟩:=exN ys.length
 obtain ⟨T,hT⟩:=exN (i + m + (n - j))
 rw [hm2] at hus
 subst hus
 rw [hm2] at hfit hroom hys
 rw [hT] at hroom
 have HMEM : Hid (∀ W,(∃ q,W = w.drewN q) -> MemES B g cap i j n m T (.slice ua m uc) cur ys W):=fun W hW => by
  obtain ⟨q,rfl⟩:=hW
  exact memES (B:=B) (w:=w.drewN q) g cap i j n m T (.slice ua m uc) cur ys hr (by exact hu) h1 h1c hi hj hn hc hm hfit hroom hB hm2 hT
 have mixed : Tryz.prog.follows .mixedOrders = true:=by kernel_rfl
 have z1 : ¬ ((i : Int) = (j : Int)):=by omega
 have z2 : (i : Int) <= (j : Int):=by omega
 have z3 : (j : Int) <= (cap : Int):=by omega
 have z4 : ¬ ((j : Int) = (n : Int)):=by omega
 have z5 : (i : Int) <= (cap : Int):=by omega
 have z6 : (j : Int) <= (n : Int):=by omega
 have z7 : ¬ (cap = j):=by omega
 have z8 : ¬ (cap = i):=by omega
 have z9 : ¬ (cap = i + m):=by omega
 have g3 : (i : Int) <= (T : Int):=by omega
 have g4 : (i : Int) + (m : Int) <= (T : Int):=by omega
 have g6 : (0 : Int) <= (i : Int) + (m : Int):=by omega
 have g7 : ((i : Int) + (m : Int)).toNat = i + m:=by omega
 have g12 : (T : Int) <= (cap : Int):=by omega
 have t1 : (i : Int) + (m : Int) + ((n - j : Nat) : Int) = ((T : Nat) : Int):=by omega
 have t2 : T <= 4611686018427387904:=by omega
 have w3 : ¬ ((T : Int) > (cap : Int)):=by omega
 have w4 : decide ((cap : Int) < (T : Int)) = false:=by rw [zn4]; omega
 have w5 : decide (cap < T) = false:=by rw [zn4]; omega
 have t4 : -4611686018427387904 <= (i : Int) + (m : Int) /\ (i : Int) + (m : Int) <= 4611686018427387904:=by omega
 have f1 : ¬ ((i : Int) + (m : Int) <= (j : Int)):=by omega
 have f2 : decide ((i : Int) + (m : Int) <= (j : Int)) = false:=by rw [zn4]; omega
 have w6:=zs9 t1 t2
 have w8:=zbf9 t4.1 t4.2
 clear t1 t2 t4 hu hr hm2 h1 h1c hm hc hT hfit hroom hys hnl
 go_enter Tryz.func163,Tryz.ntmps163
 go_wp2_with fail
 go_quiet (fail)
 obtain ⟨W,hW⟩:=exN (w.drewN nq)
 obtain ⟨W2,W3,hov,hC1,hC2,hF⟩:=HMEM.out W ⟨nq,hW.symm⟩
 have hov2:=hov W rfl
 have HF : Hid (Trn B 9 w W3 (.slice (some ⟨g,0,none⟩) n cap) (.slice (some ⟨g,0,none⟩) T cap) (cur.take i ++ (ys ++ (cur.drop j).take (n - j)))):=by
  have t0 : Tch (fun k => (Value.slice (some ⟨g,0,none⟩) n cap).ownBlock = some k) w W:=by rw [<- hW]; exact ⟨rfl,rfl,rfl,zn6 _,fun _ _ _ => rfl⟩
  refine ⟨hF.ow,t0.trans hF.tc (fun _ _ e => e),fun k hk => .inl hk⟩
 have HC1:=hideN hC1
 have HC2:=hideN hC2
 rw [hW]
 clear hC1 hC2 hF HMEM hW hov
 go_wp2_with fail
 go_region_law_o (refine step_copy_runI rfl (.tmp 126) (.tmp 129) 91 91 rfl (.slice (some ⟨g,i + m,none⟩) (T - (i + m)) (cap - (i + m))) (.slice (some ⟨g,j,none⟩) (n - j) (cap - j)) (by simp [Act.eval,Act.put]) (by simp [Act.eval,Act.put]) (HC1.out _) ?_)
 go_wp2_with (with_reducible (show wpList _ _ _ (Oper.mk _ (Op.call _) _ _ _ _ :: _) _ _); refine wpList_copy_runI _ rfl (.tmp 133) (.tmp 134) 91 91 rfl _ _ rfl rfl (HC2.out _) ?_)
 go_ret
 exact ⟨_,rfl,HF.out⟩
theorem zrd9 (v : Value) (cs : List Value) (i j : Nat) (u : Value) (ys : List Value) (h : OwV B 9 w v cs) (hu : OwV 0 9 w u ys) (hne : ∀ k,u.ownBlock = some k -> v.ownBlock ≠ some k) (h1c : ∀ y ∈ cs,y.oneCell' = true) (h1 : ∀ y ∈ ys,y.oneCell' = true) (hi : i < j) (hj : j <= cs.length) (hys : ys.length <= 1000000) (hnl : cs.length <= 1000000) (hB : B <= w.heap.size) :
  Calls Tryz.prog 163 #[v,.int .i64 (i : Int),.int .i64 (j : Int),u] w fun e w' => ∃ v',e = .returned v' /\ Trn B 9 w w' v v' (cs.take i ++ (ys ++ cs.drop j)):=by
 rcases h.rows with ⟨rfl,rfl⟩ | ⟨g,cap,cur,rfl,hBg,hr,hn,hm,hc,hk⟩
 ·simp at hj; omega
 ·have hI : InS w u ys g:=by
   rcases hu.rows with ⟨rfl,rfl⟩ | ⟨gu,cu,src,rfl,_,hru,q1,q2,q3,q4⟩
   ·exact .inl ⟨rfl,rfl⟩
   ·exact .inr ⟨gu,cu,src,rfl,hru,fun e => hne gu rfl (by rw [e]; rfl),q4,by omega⟩
  have hm' : cap <= 9223372036854775807:=by unfold maxLen at hm; omega
  have hti : cur.take i = cs.take i:=by rw [<- hk,List.take_take,Nat.min_eq_left (by omega)]
  have htd : (cur.drop j).take (cs.length - j) = cs.drop j:=by rw [<- hk,List.drop_take]; simp [hk]
  by_cases hjn : j = cs.length
  ·subst hjn
   rw [List.drop_of_length_le (zn6 _),List.append_nil,<- hti]
   by_cases hroom : i + ys.length <= cap
   ·exact repAS g cap i _ u cur ys hr hI h1 hi hn hc hm' hroom hBg
   ·exact repBS g cap i _ u cur ys hr hI h1 hi hn hc hm' (by omega) hys hnl hB
  ·have hjl : j < cs.length:=by omega
   have h1d : ∀ y ∈ (cur.drop j).take (cs.length - j),y.oneCell' = true:=fun y hy => by rw [htd] at hy; exact h1c y (List.mem_of_mem_drop hy)
   rw [<- htd,<- hti]
   by_cases hroom : i + ys.length + (cs.length - j) <= cap
   ·by_cases hfit : i + ys.length <= j
    ·exact repDS g cap i j _ u cur ys hr hI h1 h1d hi hjl hn hc hm' hfit hnl hBg
    ·exact repES g cap i j _ u cur ys hr hI h1 h1d hi hjl hn hc hm' (by omega) hroom hys hnl hBg
   ·exact repCS g cap i j _ u cur ys hr hI h1 h1d hi hjl hn hc hm' (by omega) hys hnl hB
end
section
variable {B : Nat} {w : World}
theorem infI1 : (Tryz.prog.info? 3).map (·.size) = some 1:=by kernel_rfl
theorem zvI1 (w : World) : (zeroValue 3).run Tryz.prog w = .ok (Value.int .i64 0) w:=by kernel_rfl
theorem copyI {w : World} {g gs : Nat} {cur src : List Value} (hr : Rw 3 w g cur) (hs : Rw 3 w gs src) (o so k dl dc sl sc : Nat) (hk : k = Nat.min sl dl) (ho : o + k <= cur.length) (hso : so + k <= src.length) (h1 : ∀ y ∈ (src.drop so).take k,y.oneCell' = true) (ty : TypeId) :
  (Builtin.copy_ #[56,56] ty #[.slice (some ⟨g,o,none⟩) dl dc,.slice (some ⟨gs,so,none⟩) sl sc]).run Tryz.prog w = .ok (goInt k) (w.setCells g o ((src.drop so).take k)):=by
 have hl : ((src.drop so).take k).length = k:=by simp; omega
 have:=run_copy_cells (P:=Tryz.prog) w 56 56 ty 3 g o dl dc ⟨gs,so,none⟩ sl sc ((src.drop so).take k) Tryz.underlying56 infI1 (by rw [hl,hk])
  (fun j y hj => by
   rw [Addr.add_lit,hs.cell]
   have hj2:=(List.getElem?_eq_some_iff.1 hj).1
   rw [List.getElem?_take,if_pos (by omega),List.getElem?_drop] at hj
   exact hj)
  (fun j hj => hr.there (by omega)) (fun j hj => hr.fz _) h1
 rw [hl] at this
 exact this
theorem zrv9 (w : World) (a : Option Addr) (dl dc : Nat) (ty : TypeId) : (Builtin.copy_ #[56,56] ty #[.slice a dl dc,.slice none 0 0]).run Tryz.prog w = .ok (.int .i64 0) w:=by
 have hs : (sizeOf 3).run Tryz.prog w = .ok 1 w:=by
  obtain ⟨i,hi,h⟩:=Option.map_eq_some_iff.1 infI1
  simp [sizeOf,typeInfo,hi,h]
 have h0:=run_firstCells_none (P:=Tryz.prog) w 1 0 0 0
 cases a <;> simp [Builtin.copy_,run_underlying Tryz.underlying56,hs,Result.andThen,goInt,Builtin.lenOf,h0,storeCells]
theorem clearI {w : World} {g : Nat} {cur : List Value} (hr : Rw 3 w g cur) (o k c : Nat) (hk : 0 < k) (ho : o + k <= cur.length) (ty : TypeId) :
  (Builtin.clear_ #[56] ty #[.slice (some ⟨g,o,none⟩) k c]).run Tryz.prog w = .ok (.tuple #[]) (w.setCells g o (List.replicate k (Value.int .i64 0))):=
 Lib.run_clear_slice w _ _ ty _ Tryz.underlying56 zvI1 rfl rfl g o k c hk (fun j hj => hr.there (by omega)) (fun j hj => hr.fz _)
def InI (w : World) (u : Value) (ys : List Value) (g : Nat) : Prop:=(u = .slice none 0 0 /\ ys = []) ∨ ∃ gu cu src,u = .slice (some ⟨gu,0,none⟩) ys.length cu /\ Rw 3 w gu src /\ gu ≠ g /\ src.take ys.length = ys /\ ys.length <= src.length
theorem InI.src {u : Value} {ys : List Value} {g : Nat} (h : InI w u ys g) (h1 : ∀ y ∈ ys,y.oneCell' = true) : Go.Src Tryz.prog 1 56 u ys.length ys w:=by
 rcases h with ⟨rfl,rfl⟩ | ⟨gu,cu,src,rfl,hr,_,ht,hl⟩
 ·exact Src.ofNil w Tryz.underlying56 0
 ·exact Src.ofSlice w Tryz.underlying56 ⟨gu,0,none⟩ _ cu ys (by simp) (fun j y hj => by
   rw [Addr.add_lit,Nat.zero_add,hr.cell]
   have hj2:=(List.getElem?_eq_some_iff.1 hj).1
   rw [<- ht,List.getElem?_take,if_pos hj2] at hj
   exact hj) h1
theorem repAI (g cap i n : Nat) (u : Value) (cur ys : List Value) (hr : Rw 3 w g cur) (hu : InI w u ys g) (h1 : ∀ y ∈ ys,y.oneCell' = true) (hi : i < n) (hn : n <= cap) (hc : cur.length = cap) (hm : cap <= 9223372036854775807) (hroom : i + ys.length <= cap) (hB : B <= g) :
  Calls Tryz.prog 164 #[.slice (some ⟨g,0,none⟩) n cap,.int .i64 (i : Int),.int .i64 (n : Int),u] w fun e w' => ∃ v',e = .returned v' /\ Trn B 3 w w' (.slice (some ⟨g,0,none⟩) n cap) v' (cur.take i ++ ys):=by
 have hs:=hu.src h1
 have HR:=hideN hr
 obtain ⟨m,hm2⟩:=exN ys.length
 have HM:=hideN hm2
 obtain ⟨ua,uc,rfl⟩ : ∃ a c,u = .slice a ys.length c:=by rcases hu with ⟨rfl,rfl⟩ | ⟨gu,cu,src,rfl,_⟩ <;> exact ⟨_,_,rfl⟩
 rw [hm2] at hs hroom ⊢
 have hz2 : ¬ ((i : Int) = (n : Int)):=by omega
 have hin : (i : Int) <= (n : Int):=by omega
 have hic : (i : Int) <= (cap : Int):=by omega
 have s1 : Hid (Rw 3 (w.setCells g i ys) g (cur.take i ++ (ys ++ cur.drop (i + ys.length)))):=hr.set (by rw [hm2]; omega)
 have T1 : Hid (Tch (fun k => (Value.slice (some ⟨g,0,none⟩) n cap).ownBlock = some k) w (w.setCells g i ys)):=(zb9 g _ _ _).mono (fun k _ e => by rw [e]; rfl)
 obtain ⟨W1,hW1⟩:=exN (w.setCells g i ys)
 rw [hW1] at s1 T1
 have HS:=hideN hs
 have HMX:=hideN hm
 have e1 : (cur.take i ++ (ys ++ cur.drop (i + ys.length))).length = cap:=by simp; omega
 have FIN : Hid (Trn B 3 w W1 (.slice (some ⟨g,0,none⟩) n cap) (.slice (some ⟨g,0,none⟩) (i + m) cap) (cur.take i ++ ys)):=
  ⟨s1.out.owV hB e1 (by unfold maxLen; exact HMX.out) hroom (by rw [<- List.append_assoc,zl9 (by simp; omega)]),T1.out,fun k hk => .inl hk⟩
 have hgr : ∀ j,j < ys.length -> (w.cell? ⟨g,0 + i + j,none⟩).isSome = true:=fun j hj => by rw [Nat.zero_add]; exact hr.there (by omega)
 have HGR:=hideN hgr
 have HROOM:=hideN hroom
 have E1:=hideN e1
 have HBG:=hideN hB
 have HW1:=hideN hW1
 clear hs hu hr hgr hm2 e1 hm hroom hW1
 by_cases hlt : i + m < n
 ·have hl1 : IntKind.i64.wrap ((i + m : Nat) : Int) = ((i + m : Nat) : Int):=by have:=HMX.out; rw [IntKind.wrap_i64]; omega
  have hl2 : ((i + m : Nat) : Int) < (n : Int):=by omega
  have hl5 : (i : Int) + (m : Int) < (n : Int):=by omega
  have hl6 : decide ((i : Int) + (m : Int) < (n : Int)) = true:=by rw [decide_eq_true_iff]; omega
  have hl3 : ((i + m : Nat) : Int) <= (n : Int):=by omega
  have hl7 : (i : Int) + (m : Int) <= (n : Int):=by omega
  have hl8 : (0 : Int) <= (i : Int) + (m : Int):=by omega
  have hl9 : ((i : Int) + (m : Int)).toNat = i + m:=by omega
  have hl4 : ¬ (cap = i + m):=by omega
  have cl:=clearI s1.out (i + m) (n - (i + m)) (cap - (i + m)) (by omega) (by rw [E1.out]; omega)
  have HCL:=hideN cl
  obtain ⟨W2,hW2⟩:=exH (W1.setCells g (i + m) (List.replicate (n - (i + m)) (Value.int .i64 0)))
  rw [hW2.out] at HCL
  have FIN2 : Hid (Trn B 3 w W2 (.slice (some ⟨g,0,none⟩) n cap) (.slice (some ⟨g,0,none⟩) (i + m) cap) (cur.take i ++ ys)):=by
   have s2:=s1.out.set (o:=i + m) (vs:=List.replicate (n - (i + m)) (Value.int .i64 0)) (by rw [E1.out]; simp; omega)
   rw [hW2.out] at s2
   have hy:=HM.out
   have t2 : Tch (fun k => k = g) W1 W2:=by rw [<- hW2.out]; exact zb9 g _ _ _
   have e3:=E1.out
   refine ⟨s2.owV HBG.out (by simp at e3 ⊢; omega) (by unfold maxLen; exact HMX.out) HROOM.out ?_,T1.out.trans t2 (fun k _ e => by rw [e]; rfl),fun k hk => .inl hk⟩
   rw [zl9 (by simp at e3 ⊢; omega),<- List.append_assoc,zl9 (by simp; omega)]
  clear cl hlt
  have cl2:=HCL.out
  go_enter Tryz.func164,Tryz.ntmps164
  go_wp2_with (first | (at_builtin; refine wpList_append_room1 _ rfl (.tmp 32) (.tmp 33) 56 56 rfl 3 (Value.int .i64 0) 8 Tryz.underlying56 (by kernel_rfl) g 0 i cap rfl _ rfl m ys HS.out HROOM.out HGR.out (fun j hj => HR.out.fz _) ?_; rw [Nat.zero_add,HW1.out]))
  go_ret
  exact ⟨_,rfl,FIN2.out⟩
 ·have hl6 : decide ((i : Int) + (m : Int) < (n : Int)) = false:=by rw [zn4]; omega
  have hl7 : decide (i + m < n) = false:=by rw [zn4]; omega
  clear hlt
  go_enter Tryz.func164,Tryz.ntmps164
  go_wp2_with (at_builtin; refine wpList_append_room1 _ rfl (.tmp 32) (.tmp 33) 56 56 rfl 3 (Value.int .i64 0) 8 Tryz.underlying56 (by kernel_rfl) g 0 i cap rfl _ rfl m ys HS.out HROOM.out HGR.out (fun j hj => HR.out.fz _) ?_; rw [Nat.zero_add,HW1.out])
  go_ret
  exact ⟨_,rfl,FIN.out⟩
theorem zpo9 (w : World) (a : Option Addr) (c : Nat) (ty : TypeId) : (Builtin.clear_ #[56] ty #[.slice a 0 c]).run Tryz.prog w = .ok (.tuple #[]) w:=by
 cases a <;> simp [Builtin.clear_,run_underlying Tryz.underlying56,zvI1,Result.andThen,Builtin.zeroCells,storeCells]
theorem InI.shape {u : Value} {ys : List Value} {g : Nat} (h : InI w u ys g) : ∃ a c,u = .slice a ys.length c:=by rcases h with ⟨rfl,rfl⟩ | ⟨gu,cu,src,rfl,_⟩ <;> exact ⟨_,_,rfl⟩
theorem InI.row {u : Value} {ys : List Value} {g : Nat} (h : InI w u ys g) (h0 : 0 < ys.length) : ∃ gu cu src,u = .slice (some ⟨gu,0,none⟩) ys.length cu /\ Rw 3 w gu src /\ gu ≠ g /\ src.take ys.length = ys /\ ys.length <= src.length:=by
 rcases h with ⟨rfl,rfl⟩ | h
 ·simp at h0
 ·exact h
theorem zoi9 {g cap i : Nat} {cur : List Value} (hr : Rw 3 w g cur) (hi : i <= cur.length) : (Builtin.firstCells 1 i (.slice (some ⟨g,0,none⟩) i cap)).run Tryz.prog w.drew = .ok (cur.take i).toArray w.drew:=
 run_firstCells_some w.drew 1 i ⟨g,0,none⟩ i cap (cur.take i) (by rw [List.length_take]; omega) (fun j v hj => by
   rw [Addr.add_lit,Nat.zero_add,hr.drew.cell]
   rw [List.getElem?_take] at hj
   split at hj
   ·exact hj
   ·cases hj)
theorem infEI : ∃ i0,Tryz.prog.info? 3 = some i0 /\ i0.zero = some (Value.int .i64 0) /\ i0.size = 1 /\ i0.bytes = 8:=info_parts (z:=(Value.int .i64 0)) (size:=1) (bytes:=8) (by kernel_rfl)
theorem repBI (g cap i n : Nat) (u : Value) (cur ys : List Value) (hr : Rw 3 w g cur) (hu : InI w u ys g) (h1 : ∀ y ∈ ys,y.oneCell' = true) (hi : i < n) (hn : n <= cap) (hc : cur.length = cap) (hm : cap <= 9223372036854775807) (hroom : cap < i + ys.length) (hys : ys.length <= 1000000) (hnl : n <= 1000000) (hB : B <= w.heap.size) :
  Calls Tryz.prog 164 #[.slice (some ⟨g,0,none⟩) n cap,.int .i64 (i : Int),.int .i64 (n : Int),u] w fun e w' => ∃ v',e = .returned v' /\ Trn B 3 w w' (.slice (some ⟨g,0,none⟩) n cap) v' (cur.take i ++ ys):=by
 obtain ⟨i0,hi0,hz0,hzs,hzb⟩:=infEI
 have hs:=hu.src h1
 obtain ⟨ua,uc,rfl⟩:=hu.shape
 obtain ⟨m,hm2⟩:=exN ys.length
 have HM:=hideN hm2
 rw [hm2] at hs hroom hys ⊢
 have hrun : ∀ ty,(Builtin.append_ #[56,56] ty #[.slice (some ⟨g,0,none⟩) i cap,.slice ua m uc]).run Tryz.prog w = _:=fun ty =>
  run_append_grow_src w 56 56 ty 3 i0 _ Tryz.underlying56 hi0 hz0 (some ⟨g,0,none⟩) i cap (cur.take i) (by rw [hzs]; exact zoi9 hr (by omega)) _ m ys (by rw [hzs]; exact hs) hroom (by omega) (by rw [hzb]; exact growslice_fits hroom (by omega))
 obtain ⟨G,hG⟩:=exN (grownCap w (i + m) cap 3)
 have hgc:=grownCap_ge w (i + m) cap 3
 have hgm:=grownCap_le_maxLen w (i + m) cap 3 (by unfold maxLen; omega)
 rw [hG] at hrun hgc hgm
 have er : (((cur.take i ++ ys).toArray ++ Builtin.zeroCells ((Value.int .i64 0) : Value).cells (G - (i + m)))) = (cur.take i ++ ys ++ List.replicate (G - (i + m)) (Value.int .i64 0)).toArray:=by
  rw [<- zm9 (z:=(Value.int .i64 0)) rfl]
  simp
 rw [er] at hrun
 have HR2:=hideN hrun
 have FIN : Hid (Trn B 3 w (w.drew.alloc (.cells (cur.take i ++ ys ++ List.replicate (G - (i + m)) (Value.int .i64 0)).toArray 3)) (.slice (some ⟨g,0,none⟩) n cap) (.slice (some ⟨w.heap.size,0,none⟩) (i + m) G) (cur.take i ++ ys)):=by
  refine ⟨Rw.owV (cur:=cur.take i ++ ys ++ List.replicate (G - (i + m)) (Value.int .i64 0)) (Rw.new w.drew _ _) hB (by simp; omega) hgm hgc (by rw [zl9 (by simp; omega)]),(zp9 _ w).trans (zbg9 _ _ _) (fun _ _ e => e),fun k hk => .inr (by simp [Value.ownBlock] at hk; omega)⟩
 obtain ⟨W1,hW1⟩:=exN (w.drew.alloc (.cells (cur.take i ++ ys ++ List.replicate (G - (i + m)) (Value.int .i64 0)).toArray 3))
 rw [hW1] at HR2 FIN
 have hz2 : ¬ ((i : Int) = (n : Int)):=by omega
 have hin : (i : Int) <= (n : Int):=by omega
 have hic : (i : Int) <= (cap : Int):=by omega
 have hl6 : decide ((i : Int) + (m : Int) < (n : Int)) = false:=by rw [zn4]; omega
 have hl7 : decide (i + m < n) = false:=by rw [zn4]; omega
 clear hs hu hr hrun er hm2 hW1 hG hgc hgm hm hroom hys hi0 hz0 hzs hzb
 go_enter Tryz.func164,Tryz.ntmps164
 go_wp2_with (at_builtin; refine Lib.wpList_append_run _ rfl _ _ _ _ rfl _ _ rfl rfl _ _ (HR2.out _) ?_)
 go_ret
 exact ⟨_,rfl,FIN.out⟩
def MemCI (B NB g cap i j n m T : Nat) (u : Value) (cur ys : List Value) (w : World) : Prop:=
  ∃ G W1 W2 W3,(∀ ty,(Builtin.append_ #[56,3] ty #[.slice (some ⟨g,0,none⟩) i cap,.int .i64 ((T : Int) - (i : Int))]).run Tryz.prog w = .ok (.slice (some ⟨NB,0,none⟩) (T) G) W1) /\ (∀ ty,(Builtin.copy_ #[56,56] ty #[.slice (some ⟨NB,i,none⟩) (T - i) (G - i),u]).run Tryz.prog W1 = .ok (goInt m) W2) ∧
   (∀ ty,(Builtin.copy_ #[56,56] ty #[.slice (some ⟨NB,i + m,none⟩) (T - (i + m)) (G - (i + m)),.slice (some ⟨g,j,none⟩) (n - j) (cap - j)]).run Tryz.prog W2.drew = .ok (goInt ((n - j : Nat) : Int)) W3) ∧
   Trn B 3 w W3 (.slice (some ⟨g,0,none⟩) n cap) (.slice (some ⟨NB,0,none⟩) (T) G) (cur.take i ++ (ys ++ (cur.drop j).take (n - j))) /\ T <= G /\ G <= 9223372036854775807
theorem memCI (g cap i j n : Nat) (u : Value) (cur ys : List Value) (hr : Rw 3 w g cur) (hu : InI w u ys g) (h1 : ∀ y ∈ ys,y.oneCell' = true) (h1c : ∀ y ∈ (cur.drop j).take (n - j),y.oneCell' = true) (hi : i < j) (hj : j < n) (hn : n <= cap) (hc : cur.length = cap) (hm : cap <= 9223372036854775807) (hroom : cap < i + ys.length + (n - j)) (hys : ys.length <= 1000000) (hnl : n <= 1000000) (hB : B <= w.heap.size) (NB m T : Nat) (hNB : w.heap.size = NB) (hm2 : ys.length = m) (hT : i + m + (n - j) = T) : MemCI B NB g cap i j n m T u cur ys w:=by
 obtain ⟨i0,hi0,hz0,hzs,hzb⟩:=infEI
 obtain ⟨gu,uc,src,rfl,hru,hne,hst,hsl⟩:=hu.row (by omega)
 have h1s : ∀ y ∈ src.take m,y.oneCell' = true:=by rw [<- hm2,hst]; exact h1
 rw [hm2] at hroom hys hst hsl ⊢
 rw [hT] at hroom
 have hrz : ∀ ty,(Builtin.append_ #[56,3] ty #[.slice (some ⟨g,0,none⟩) i cap,.int .i64 (T - i : Nat)]).run Tryz.prog w = _:=fun ty =>
  Lib.run_append_grow_zeros w 56 3 ty 3 i0 _ .i64 .i64 Tryz.underlying56 Tryz.underlying3 hi0 hz0 (some ⟨g,0,none⟩) i cap (cur.take i) (by rw [hzs]; exact zoi9 hr (by omega)) (T - i) (by omega) (by omega) (by omega) (by omega) (by rw [hzb]; omega) (by rw [hzb]; exact growslice_fits (by omega) (by omega))
 have hik : i + (T - i) = T:=by omega
 rw [hik] at hrz
 obtain ⟨G,hG⟩:=exN (grownCap w T cap 3)
 have hgc:=grownCap_ge w T cap 3
 have hgm:=grownCap_le_maxLen w T cap 3 (by unfold maxLen; omega)
 rw [hG] at hrz hgc hgm
 have er : ((cur.take i).toArray ++ Builtin.zeroCells ((Value.int .i64 0) : Value).cells (T - i) ++ Builtin.zeroCells ((Value.int .i64 0) : Value).cells (G - T)) = (cur.take i ++ (List.replicate (T - i) (Value.int .i64 0) ++ List.replicate (G - T) (Value.int .i64 0))).toArray:=by
  rw [<- zm9 (z:=(Value.int .i64 0)) rfl,<- zm9 (z:=(Value.int .i64 0)) rfl]
  simp
 rw [er] at hrz
 obtain ⟨Zs,hZs⟩:=exN (List.replicate (T - i) (Value.int .i64 0) ++ List.replicate (G - T) (Value.int .i64 0))
 have lZ : Zs.length = G - i:=by rw [<- hZs]; simp; omega
 rw [hZs] at hrz
 have r0 : Rw 3 (w.drew.alloc (.cells (cur.take i ++ Zs).toArray 3)) w.heap.size (cur.take i ++ Zs):=Rw.new w.drew _ _
 have ta : Tch (fun k => k = w.heap.size) w (w.drew.alloc (.cells (cur.take i ++ Zs).toArray 3)):=(zp9 _ w).trans (zbg9 _ _ _) (fun _ _ e => e)
 obtain ⟨W1,hW1⟩:=exN (w.drew.alloc (.cells (cur.take i ++ Zs).toArray 3))
 rw [hW1] at hrz r0 ta
 have hgN : g ≠ w.heap.size:=by have:=hr.lt; omega
 have hguN : gu ≠ w.heap.size:=by have:=hru.lt; omega
 have hlc : (cur.take i ++ Zs).length = G:=by simp; omega
 have ru1:=hru.tch ta hguN
 have cp1:=fun ty => copyI r0 ru1 i 0 m (T - i) (G - i) m uc (by simp only [Nat.min_def]; split <;> omega) (by rw [hlc]; omega) (by omega) (by rw [List.drop_zero]; exact h1s) ty
 have s1:=r0.set (o:=i) (vs:=(src.drop 0).take m) (by rw [hlc,List.drop_zero,List.length_take]; omega)
 rw [List.drop_zero,hst] at s1
 simp only [List.drop_zero,hst] at cp1
 have tb:=ta.trans (zb9 w.heap.size ys i W1) (fun _ _ e => e)
 obtain ⟨W2,hW2⟩:=exN (W1.setCells w.heap.size i ys)
 rw [hW2] at s1 tb
 simp only [hW2] at cp1
 have rg2:=hr.tch tb hgN
 obtain ⟨c2,hc2⟩:=exN ((cur.take i ++ Zs).take i ++ (ys ++ (cur.take i ++ Zs).drop (i + ys.length)))
 rw [hc2] at s1
 have lc2 : c2.length = G:=by rw [<- hc2]; simp; omega
 have cp2:=fun ty => copyI s1.drew rg2.drew (i + m) j (n - j) (T - (i + m)) (G - (i + m)) (n - j) (cap - j) (by simp only [Nat.min_def]; split <;> omega) (by omega) (by omega) h1c ty
 have s2:=s1.drew.set (o:=i + m) (vs:=(cur.drop j).take (n - j)) (by simp; omega)
 have td:=(tb.trans (zp9 _ W2) (fun _ _ e => e)).trans (zb9 w.heap.size ((cur.drop j).take (n - j)) (i + m) W2.drew) (fun _ _ e => e)
 subst hNB
 refine ⟨G,W1,W2,_,by rw [show (T : Int) - (i : Int) = ((T - i : Nat) : Int) by omega]; exact hrz,cp1,cp2,⟨s2.owV hB (by simp; omega) hgm hgc ?_,td.mono (fun k hk e => by omega),fun k hk => .inr (by simp [Value.ownBlock] at hk; omega)⟩,by omega,by unfold maxLen at hgm; omega⟩
 have e1 : c2.take (i + m) = cur.take i ++ ys:=by
  rw [<- hc2,zl9 (a:=cur.take i) (by simp; omega),<- List.append_assoc,zl9 (by simp; omega)]
 rw [e1,show cur.take i ++ ys ++ ((cur.drop j).take (n - j) ++ c2.drop (i + m + ((cur.drop j).take (n - j)).length)) = (cur.take i ++ (ys ++ (cur.drop j).take (n - j))) ++ c2.drop (i + m + ((cur.drop j).take (n - j)).length) by simp,zl9 (by simp; omega)]
end
section
variable {B : Nat} {w : World}
theorem repCI (g cap i j n : Nat) (u : Value) (cur ys : List Value) (hr : Rw 3 w g cur) (hu : InI w u ys g) (h1 : ∀ y ∈ ys,y.oneCell' = true) (h1c : ∀ y ∈ (cur.drop j).take (n - j),y.oneCell' = true) (hi : i < j) (hj : j < n) (hn : n <= cap) (hc : cur.length = cap) (hm : cap <= 9223372036854775807) (hroom : cap < i + ys.length + (n - j)) (hys : ys.length <= 1000000) (hnl : n <= 1000000) (hB : B <= w.heap.size) :
  Calls Tryz.prog 164 #[.slice (some ⟨g,0,none⟩) n cap,.int .i64 (i : Int),.int .i64 (j : Int),u] w fun e w' => ∃ v',e = .returned v' /\ Trn B 3 w w' (.slice (some ⟨g,0,none⟩) n cap) v' (cur.take i ++ (ys ++ (cur.drop j).take (n - j))):=by
 obtain ⟨ua,uc,rfl⟩:=hu.shape
 obtain ⟨NB,hNB⟩:=exN w.heap.size
 obtain ⟨m,hm2⟩:=exN ys.length
 obtain ⟨T,hT⟩:=exN (i + m + (n - j))
 have HMEM : Hid (∀ W,(∃ q,W = w.drewN q) -> MemCI B NB g cap i j n m T (.slice ua ys.length uc) cur ys W):=fun W hW => by
  obtain ⟨q,rfl⟩:=hW
  exact memCI (B:=B) (w:=w.drewN q) g cap i j n (.slice ua ys.length uc) cur ys hr (by exact hu) h1 h1c hi hj hn hc hm hroom hys hnl hB NB m T hNB hm2 hT
 clear hNB
 have HM:=hideN hm2
 rw [hm2] at hroom hys HMEM ⊢
 have HTT:=hideN hT
 have z1 : ¬ ((i : Int) = (j : Int)):=by omega
 have z2 : (i : Int) <= (j : Int):=by omega
 have z3 : (j : Int) <= (cap : Int):=by omega
 have z4 : ¬ ((j : Int) = (n : Int)):=by omega
 have z5 : (i : Int) <= (cap : Int):=by omega
 have z6 : (j : Int) <= (n : Int):=by omega
 have z7 : ¬ (cap = j):=by omega
 have z8 : ¬ (cap = i):=by omega
 have mixed : Tryz.prog.follows .mixedOrders = true:=by kernel_rfl
 have g3 : (i : Int) <= (T : Int):=by omega
 have g4 : (i : Int) + (m : Int) <= (T : Int):=by omega
 have g5 : ((i + m : Nat) : Int) <= (T : Int):=by omega
 have g6 : (0 : Int) <= (i : Int) + (m : Int):=by omega
 have g7 : ((i : Int) + (m : Int)).toNat = i + m:=by omega
 have g8 : i <= T:=by omega
 have t1 : (i : Int) + (m : Int) + ((n - j : Nat) : Int) = ((T : Nat) : Int):=by omega
 have t2 : T <= 4611686018427387904:=by omega
 have t3 : (T : Int) - (i : Int) = ((T - i : Nat) : Int):=by omega
 have w3 : (T : Int) > (cap : Int):=by omega
 have w4 : (cap : Int) < (T : Int):=by omega
 have t4 : -4611686018427387904 <= (i : Int) + (m : Int) /\ (i : Int) + (m : Int) <= 4611686018427387904:=by omega
 have t5 : -4611686018427387904 <= (T : Int) - (i : Int) /\ (T : Int) - (i : Int) <= 4611686018427387904:=by omega
 have w6:=zs9 t1 t2
 have w7:=zbf9 t5.1 t5.2
 have w8:=zbf9 t4.1 t4.2
 clear t1 t2 t3 t4 t5
 clear hu hr hm2 hT hroom hys h1 h1c hm hc
 go_enter Tryz.func164,Tryz.ntmps164
 go_wp2_with fail
 go_quiet (fail)
 obtain ⟨W,hW⟩:=exN (w.drewN nq)
 obtain ⟨G,W1,W2,W3,hA,hC1,hC2,hF,hg1,hg2⟩:=HMEM.out W ⟨nq,hW.symm⟩
 have HF : Hid (Trn B 3 w W3 (.slice (some ⟨g,0,none⟩) n cap) (.slice (some ⟨NB,0,none⟩) T G) (cur.take i ++ (ys ++ (cur.drop j).take (n - j)))):=by
  have t0 : Tch (fun k => (Value.slice (some ⟨g,0,none⟩) n cap).ownBlock = some k) w W:=by rw [<- hW]; exact ⟨rfl,rfl,rfl,zn6 _,fun _ _ _ => rfl⟩
  refine ⟨hF.ow,t0.trans hF.tc (fun _ _ e => e),fun k hk => (hF.fs k hk).imp id (fun e => ?_)⟩
  rw [<- hW] at e
  exact e
 have HA:=hideN hA
 have HC1:=hideN hC1
 have HC2:=hideN hC2
 have g1 : ¬ (G = i):=by have:=HTT.out; clear w6 w7 w8; omega
 have g2 : ¬ (G = i + m):=by have:=HTT.out; clear w6 w7 w8; omega
 rw [hW]
 clear hA hC1 hC2 hF HMEM hW
 go_wp2_with (first
  | (at_builtin; refine Lib.wpList_append_run _ rfl _ _ _ _ rfl _ _ rfl rfl _ _ (HA.out _) ?_)
  | (with_reducible (show wpList _ _ _ (Oper.mk _ (Op.call _) _ _ _ _ :: _) _ _); refine wpList_copy_runI _ rfl (.tmp 70) (.tmp 71) 56 56 rfl _ _ rfl rfl (HC1.out _) ?_))
 go_region_law_o (refine step_copy_runI rfl (.tmp 78) (.tmp 81) 56 56 rfl (.slice (some ⟨NB,i + m,none⟩) (T - (i + m)) (G - (i + m))) (.slice (some ⟨g,j,none⟩) (n - j) (cap - j)) (by simp [Act.eval,Act.put]) (by simp [Act.eval,Act.put]) (HC2.out _) ?_)
 go_wp2_with fail
 go_ret
 exact ⟨_,rfl,HF.out⟩
end
section
variable {B : Nat} {w : World}
def MemDI (B g cap i j n m T : Nat) (u : Value) (cur ys : List Value) (w : World) : Prop:=
  ∃ W2 W3 W4,(∀ ty,(Builtin.copy_ #[56,56] ty #[.slice (some ⟨g,i,none⟩) (T - i) (cap - i),u]).run Tryz.prog w = .ok (goInt m) W2) ∧
   (∀ ty,(Builtin.copy_ #[56,56] ty #[.slice (some ⟨g,i + m,none⟩) (T - (i + m)) (cap - (i + m)),.slice (some ⟨g,j,none⟩) (n - j) (cap - j)]).run Tryz.prog W2.drew = .ok (goInt ((n - j : Nat) : Int)) W3) ∧
   (T < n -> ∀ ty,(Builtin.clear_ #[56] ty #[.slice (some ⟨g,T,none⟩) (n - T) (cap - T)]).run Tryz.prog W3 = .ok (.tuple #[]) W4) /\ (¬ T < n -> W4 = W3) ∧
   Trn B 3 w W4 (.slice (some ⟨g,0,none⟩) n cap) (.slice (some ⟨g,0,none⟩) T cap) (cur.take i ++ (ys ++ (cur.drop j).take (n - j)))
theorem memDI (g cap i j n m T : Nat) (u : Value) (cur ys : List Value) (hr : Rw 3 w g cur) (hu : InI w u ys g) (h1 : ∀ y ∈ ys,y.oneCell' = true) (h1c : ∀ y ∈ (cur.drop j).take (n - j),y.oneCell' = true) (hi : i < j) (hj : j < n) (hn : n <= cap) (hc : cur.length = cap) (hm : cap <= 9223372036854775807) (hfit : i + m <= j) (hB : B <= g) (hm2 : ys.length = m) (hT : i + m + (n - j) = T) : MemDI B g cap i j n m T u cur ys w:=by
 have s1:=hr.set (o:=i) (vs:=ys) (by omega)
 have cp1 : ∀ ty,(Builtin.copy_ #[56,56] ty #[.slice (some ⟨g,i,none⟩) (T - i) (cap - i),u]).run Tryz.prog w = .ok (goInt m) (w.setCells g i ys):=fun ty => by
  rcases hu with ⟨rfl,rfl⟩ | ⟨gu,uc,src,rfl,hru,hne,hst,hsl⟩
  ·have : m = 0:=by rw [<- hm2]; rfl
   subst this
   exact zrv9 w _ _ _ ty
  ·rw [hm2] at hst hsl ⊢
   have:=copyI hr hru i 0 m (T - i) (cap - i) m uc (by simp only [Nat.min_def]; split <;> omega) (by omega) (by omega) (by rw [List.drop_zero,hst]; exact h1) ty
   rw [List.drop_zero,hst] at this
   exact this
 obtain ⟨c2,hc2⟩:=exN (cur.take i ++ (ys ++ cur.drop (i + ys.length)))
 rw [hc2] at s1
 have lc2 : c2.length = cap:=by rw [<- hc2]; simp; omega
 have ed : c2.drop j = cur.drop j:=by
  rw [<- hc2,<- List.append_assoc,List.drop_append,List.drop_of_length_le (by simp; omega),List.nil_append,List.drop_drop]
  congr 1
  simp
  omega
 have cp2:=fun ty => copyI s1.drew s1.drew (i + m) j (n - j) (T - (i + m)) (cap - (i + m)) (n - j) (cap - j) (by simp only [Nat.min_def]; split <;> omega) (by omega) (by omega) (by rw [ed]; exact h1c) ty
 have s2:=s1.drew.set (o:=i + m) (vs:=(c2.drop j).take (n - j)) (by rw [ed]; simp; omega)
 rw [ed] at s2
 simp only [ed] at cp2
 obtain ⟨c3,hc3⟩:=exN (c2.take (i + m) ++ ((cur.drop j).take (n - j) ++ c2.drop (i + m + ((cur.drop j).take (n - j)).length)))
 have lj : ((cur.drop j).take (n - j)).length = n - j:=by simp; omega
 rw [hc3] at s2
 have lc3 : c3.length = cap:=by rw [<- hc3]; simp; omega
 have et : c3.take T = cur.take i ++ (ys ++ (cur.drop j).take (n - j)):=by
  have e1 : c2.take (i + m) = cur.take i ++ ys:=by rw [<- hc2,<- List.append_assoc,zl9 (by simp; omega)]
  rw [<- hc3,e1,show cur.take i ++ ys ++ ((cur.drop j).take (n - j) ++ c2.drop (i + m + ((cur.drop j).take (n - j)).length)) = (cur.take i ++ (ys ++ (cur.drop j).take (n - j))) ++ c2.drop (i + m + ((cur.drop j).take (n - j)).length) by simp,zl9 (by simp; omega)]
 have td : Tch (fun k => k = g) w ((w.setCells g i ys).drew.setCells g (i + m) ((cur.drop j).take (n - j))):=((zb9 g _ _ _).trans (zp9 _ _) (fun _ _ e => e)).trans (zb9 g _ _ _) (fun _ _ e => e)
 by_cases ht : T < n
 ·have cl:=fun ty => clearI s2 T (n - T) (cap - T) (by omega) (by omega) ty
  have s3:=s2.set (o:=T) (vs:=List.replicate (n - T) (Value.int .i64 0)) (by simp; omega)
  refine ⟨_,_,_,cp1,cp2,fun _ => cl,fun e => absurd ht e,s3.owV hB (by simp; omega) (by unfold maxLen; exact hm) (by omega) ?_,(td.trans (zb9 g _ _ _) (fun _ _ e => e)).mono (fun k _ e => by rw [e]; rfl),fun k hk => .inl hk⟩
  rw [zl9 (by simp; omega),et]
 ·exact ⟨_,_,_,cp1,cp2,fun e => absurd e ht,fun _ => rfl,s2.owV hB lc3 (by unfold maxLen; exact hm) (by omega) et,td.mono (fun k _ e => by rw [e]; rfl),fun k hk => .inl hk⟩
theorem repDI (g cap i j n : Nat) (u : Value) (cur ys : List Value) (hr : Rw 3 w g cur) (hu : InI w u ys g) (h1 : ∀ y ∈ ys,y.oneCell' = true) (h1c : ∀ y ∈ (cur.drop j).take (n - j),y.oneCell' = true) (hi : i < j) (hj : j < n) (hn : n <= cap) (hc : cur.length = cap) (hm : cap <= 9223372036854775807) (hfit : i + ys.length <= j) (hnl : n <= 1000000) (hB : B <= g) :
  Calls Tryz.prog 164 #[.slice (some ⟨g,0,none⟩) n cap,.int .i64 (i : Int),.int .i64 (j : Int),u] w fun e w' => ∃ v',e = .returned v' /\ Trn B 3 w w' (.slice (some ⟨g,0,none⟩) n cap) v' (cur.take i ++ (ys ++ (cur.drop j).take (n - j))):=by
 obtain ⟨ua,uc,hus⟩:=hu.shape
 obtain ⟨m,hm2⟩:=exN ys.length
 obtain ⟨T,hT⟩:=exN (i + m + (n - j))
 rw [hm2] at hus
 subst hus
 rw [hm2] at hfit
 have HMEM : Hid (∀ W,(∃ q,W = w.drewN q) -> MemDI B g cap i j n m T (.slice ua m uc) cur ys W):=fun W hW => by
  obtain ⟨q,rfl⟩:=hW
  exact memDI (B:=B) (w:=w.drewN q) g cap i j n m T (.slice ua m uc) cur ys hr (by exact hu) h1 h1c hi hj hn hc hm hfit hB hm2 hT
 have mixed : Tryz.prog.follows .mixedOrders = true:=by kernel_rfl
 have z1 : ¬ ((i : Int) = (j : Int)):=by omega
 have z2 : (i : Int) <= (j : Int):=by omega
 have z3 : (j : Int) <= (cap : Int):=by omega
 have z4 : ¬ ((j : Int) = (n : Int)):=by omega
 have z5 : (i : Int) <= (cap : Int):=by omega
 have z6 : (j : Int) <= (n : Int):=by omega
 have z7 : ¬ (cap = j):=by omega
 have z8 : ¬ (cap = i):=by omega
 have z9 : ¬ (cap = i + m):=by omega
 have g3 : (i : Int) <= (T : Int):=by omega
 have g4 : (i : Int) + (m : Int) <= (T : Int):=by omega
 have g6 : (0 : Int) <= (i : Int) + (m : Int):=by omega
 have g7 : ((i : Int) + (m : Int)).toNat = i + m:=by omega
 have g12 : (T : Int) <= (cap : Int):=by omega
 have t1 : (i : Int) + (m : Int) + ((n - j : Nat) : Int) = ((T : Nat) : Int):=by omega
 have t2 : T <= 4611686018427387904:=by omega
 have w3 : ¬ ((T : Int) > (cap : Int)):=by omega
 have w4 : decide ((cap : Int) < (T : Int)) = false:=by rw [zn4]; omega
 have w5 : decide (cap < T) = false:=by rw [zn4]; omega
 have t4 : -4611686018427387904 <= (i : Int) + (m : Int) /\ (i : Int) + (m : Int) <= 4611686018427387904:=by omega
 have f1 : (i : Int) + (m : Int) <= (j : Int):=by omega
 have f2 : decide ((i : Int) + (m : Int) <= (j : Int)) = true:=by rw [decide_eq_true_iff]; omega
 have f3 : T <= n:=by omega
 have cl0:=fun (a : Option Addr) (c : Nat) (ty : TypeId) (W : World) => zpo9 W a c ty
 have w6:=zs9 t1 t2
 have w8:=zbf9 t4.1 t4.2
 clear t1 t2 t4 hu hr hm2 h1 h1c hm hc
 by_cases ht : T < n
 ·have f4 : (T : Int) <= (n : Int):=by clear w6 w8; omega
  have f5 : ¬ (cap = T):=by clear w6 w8; omega
  clear hT hfit cl0 f3 hnl
  go_enter Tryz.func164,Tryz.ntmps164
  go_wp2_with fail
  go_quiet (fail)
  obtain ⟨W,hW⟩:=exN (w.drewN nq)
  obtain ⟨W2,W3,W4,hC1,hC2,hC3,_,hF⟩:=HMEM.out W ⟨nq,hW.symm⟩
  have HF : Hid (Trn B 3 w W4 (.slice (some ⟨g,0,none⟩) n cap) (.slice (some ⟨g,0,none⟩) T cap) (cur.take i ++ (ys ++ (cur.drop j).take (n - j)))):=by
   have t0 : Tch (fun k => (Value.slice (some ⟨g,0,none⟩) n cap).ownBlock = some k) w W:=by rw [<- hW]; exact ⟨rfl,rfl,rfl,zn6 _,fun _ _ _ => rfl⟩
   refine ⟨hF.ow,t0.trans hF.tc (fun _ _ e => e),fun k hk => .inl hk⟩
  have HC1:=hideN hC1
  have HC2:=hideN hC2
  have cl:=hC3 ht
  rw [hW]
  clear hC1 hC2 hC3 hF HMEM hW ht
  go_wp2_with (with_reducible (show wpList _ _ _ (Oper.mk _ (Op.call _) _ _ _ _ :: _) _ _); refine wpList_copy_runI _ rfl (.tmp 95) (.tmp 96) 56 56 rfl _ _ rfl rfl (HC1.out _) ?_)
  go_region_law_o (refine step_copy_runI rfl (.tmp 103) (.tmp 106) 56 56 rfl (.slice (some ⟨g,i + m,none⟩) (T - (i + m)) (cap - (i + m))) (.slice (some ⟨g,j,none⟩) (n - j) (cap - j)) (by simp [Act.eval,Act.put]) (by simp [Act.eval,Act.put]) (HC2.out _) ?_)
  go_wp2_with fail
  go_ret
  exact ⟨_,rfl,HF.out⟩
 ·obtain rfl : T = n:=by clear w6 w8; omega
  have HCAP : cap = T ∨ ¬ cap = T:=by clear w6 w8; omega
  clear hT hfit f3 hnl
  rcases HCAP with rfl | hct
  ·go_enter Tryz.func164,Tryz.ntmps164
   go_wp2_with fail
   go_quiet (fail)
   obtain ⟨W,hW⟩:=exN (w.drewN nq)
   obtain ⟨W2,W3,W4,hC1,hC2,_,hC3,hF⟩:=HMEM.out W ⟨nq,hW.symm⟩
   have HF : Hid (Trn B 3 w W3 (.slice (some ⟨g,0,none⟩) cap cap) (.slice (some ⟨g,0,none⟩) cap cap) (cur.take i ++ (ys ++ (cur.drop j).take (cap - j)))):=by
    have t0 : Tch (fun k => (Value.slice (some ⟨g,0,none⟩) cap cap).ownBlock = some k) w W:=by rw [<- hW]; exact ⟨rfl,rfl,rfl,zn6 _,fun _ _ _ => rfl⟩
    rw [<- hC3 ht]
    refine ⟨hF.ow,t0.trans hF.tc (fun _ _ e => e),fun k hk => .inl hk⟩
   have HC1:=hideN hC1
   have HC2:=hideN hC2
   rw [hW]
   clear hC1 hC2 hC3 hF HMEM hW ht
   go_wp2_with (with_reducible (show wpList _ _ _ (Oper.mk _ (Op.call _) _ _ _ _ :: _) _ _); refine wpList_copy_runI _ rfl (.tmp 95) (.tmp 96) 56 56 rfl _ _ rfl rfl (HC1.out _) ?_)
   go_region_law_o (refine step_copy_runI rfl (.tmp 103) (.tmp 106) 56 56 rfl (.slice (some ⟨g,i + m,none⟩) (cap - (i + m)) (cap - (i + m))) (.slice (some ⟨g,j,none⟩) (cap - j) (cap - j)) (by simp [Act.eval,Act.put]) (by simp [Act.eval,Act.put]) (HC2.out _) ?_)
   go_wp2_with fail
   go_ret
   exact ⟨_,rfl,HF.out⟩
  ·go_enter Tryz.func164,Tryz.ntmps164
   go_wp2_with fail
   go_quiet (fail)
   obtain ⟨W,hW⟩:=exN (w.drewN nq)
   obtain ⟨W2,W3,W4,hC1,hC2,_,hC3,hF⟩:=HMEM.out W ⟨nq,hW.symm⟩
   have HF : Hid (Trn B 3 w W3 (.slice (some ⟨g,0,none⟩) T cap) (.slice (some ⟨g,0,none⟩) T cap) (cur.take i ++ (ys ++ (cur.drop j).take (T - j)))):=by
    have t0 : Tch (fun k => (Value.slice (some ⟨g,0,none⟩) T cap).ownBlock = some k) w W:=by rw [<- hW]; exact ⟨rfl,rfl,rfl,zn6 _,fun _ _ _ => rfl⟩
    rw [<- hC3 ht]
    refine ⟨hF.ow,t0.trans hF.tc (fun _ _ e => e),fun k hk => .inl hk⟩
   have HC1:=hideN hC1
   have HC2:=hideN hC2
   rw [hW]
   clear hC1 hC2 hC3 hF HMEM hW ht
   go_wp2_with (with_reducible (show wpList _ _ _ (Oper.mk _ (Op.call _) _ _ _ _ :: _) _ _); refine wpList_copy_runI _ rfl (.tmp 95) (.tmp 96) 56 56 rfl _ _ rfl rfl (HC1.out _) ?_)
   go_region_law_o (refine step_copy_runI rfl (.tmp 103) (.tmp 106) 56 56 rfl (.slice (some ⟨g,i + m,none⟩) (T - (i + m)) (cap - (i + m))) (.slice (some ⟨g,j,none⟩) (T - j) (cap - j)) (by simp [Act.eval,Act.put]) (by simp [Act.eval,Act.put]) (HC2.out _) ?_)
   go_wp2_with fail
   go_ret
   exact ⟨_,rfl,HF.out⟩
end
section
variable {B : Nat} {w : World}
def MemEI (B g cap i j n m T : Nat) (u : Value) (cur ys : List Value) (w : World) : Prop:=
  ∃ W2 W3,(∀ W,W = w -> (callFunc 183 #[.slice (some ⟨g,i + m,none⟩) (T - (i + m)) (cap - (i + m)),u]).run Tryz.prog W = .ok (.value (.bool false)) W) ∧
   (∀ ty,(Builtin.copy_ #[56,56] ty #[.slice (some ⟨g,i + m,none⟩) (T - (i + m)) (cap - (i + m)),.slice (some ⟨g,j,none⟩) (n - j) (cap - j)]).run Tryz.prog w.drew = .ok (goInt ((n - j : Nat) : Int)) W2) ∧
   (∀ ty,(Builtin.copy_ #[56,56] ty #[.slice (some ⟨g,i,none⟩) (T - i) (cap - i),u]).run Tryz.prog W2 = .ok (goInt m) W3) ∧
   Trn B 3 w W3 (.slice (some ⟨g,0,none⟩) n cap) (.slice (some ⟨g,0,none⟩) T cap) (cur.take i ++ (ys ++ (cur.drop j).take (n - j)))
theorem sizeI1 (w : World) : (Go.sizeOf 3).run Tryz.prog w = .ok 1 w:=by
 obtain ⟨i,hi,h⟩:=Option.map_eq_some_iff.1 infI1
 simp [sizeOf,typeInfo,hi,h]
theorem memEI (g cap i j n m T : Nat) (u : Value) (cur ys : List Value) (hr : Rw 3 w g cur) (hu : InI w u ys g) (h1 : ∀ y ∈ ys,y.oneCell' = true) (h1c : ∀ y ∈ (cur.drop j).take (n - j),y.oneCell' = true) (hi : i < j) (hj : j < n) (hn : n <= cap) (hc : cur.length = cap) (hm : cap <= 9223372036854775807) (hfit : j < i + m) (hroom : T <= cap) (hB : B <= g) (hm2 : ys.length = m) (hT : i + m + (n - j) = T) : MemEI B g cap i j n m T u cur ys w:=by
 obtain ⟨gu,uc,src,rfl,hru,hne,hst,hsl⟩:=hu.row (by omega)
 rw [hm2] at hst hsl ⊢
 have lj : ((cur.drop j).take (n - j)).length = n - j:=by simp; omega
 have cp1:=fun ty => copyI hr.drew hr.drew (i + m) j (n - j) (T - (i + m)) (cap - (i + m)) (n - j) (cap - j) (by simp only [Nat.min_def]; split <;> omega) (by omega) (by omega) h1c ty
 have s1:=hr.drew.set (o:=i + m) (vs:=(cur.drop j).take (n - j)) (by rw [lj]; omega)
 obtain ⟨c2,hc2⟩:=exN (cur.take (i + m) ++ ((cur.drop j).take (n - j) ++ cur.drop (i + m + ((cur.drop j).take (n - j)).length)))
 rw [hc2] at s1
 have lc2 : c2.length = cap:=by rw [<- hc2]; simp; omega
 have ta : Tch (fun k => k = g) w (w.drew.setCells g (i + m) ((cur.drop j).take (n - j))):=(zp9 _ w).trans (zb9 g _ _ _) (fun _ _ e => e)
 have ru1:=hru.tch ta hne
 have cp2:=fun ty => copyI s1 ru1 i 0 m (T - i) (cap - i) m uc (by simp only [Nat.min_def]; split <;> omega) (by omega) (by omega) (by rw [List.drop_zero,hst]; exact h1) ty
 simp only [List.drop_zero,hst] at cp2
 have s2:=s1.set (o:=i) (vs:=ys) (by omega)
 have hov : (callFunc 183 #[.slice (some ⟨g,i + m,none⟩) (T - (i + m)) (cap - (i + m)),.slice (some ⟨gu,0,none⟩) m uc]).run Tryz.prog w = .ok (.value (.bool false)) w:=by
  rw [run_callFunc_extern Tryz.func183 (by kernel_rfl) (by kernel_rfl) (by kernel_rfl) (e:=Extern.SlicesOverlaps.overlaps #[56,56] #[4]) (by kernel_rfl),
   Lib.run_overlaps_apart w 56 4 3 Tryz.underlying56 1 sizeI1 ⟨g,i + m,none⟩ ⟨gu,0,none⟩ (T - (i + m)) (cap - (i + m)) m uc (fun e => hne e.symm) 3 3 cur.length src.length hr.shape hru.shape (by omega) (hr.fz _) (hr.fz _)]
  rfl
 refine ⟨_,_,fun W hW => by rw [hW]; exact hov,cp1,cp2,s2.owV hB (by simp; omega) (by unfold maxLen; exact hm) hroom ?_,(ta.trans (zb9 g _ _ _) (fun _ _ e => e)).mono (fun k _ e => by rw [e]; rfl),fun k hk => .inl hk⟩
 have e1 : c2.take i = cur.take i:=by rw [<- hc2,List.take_append_of_le_length (by simp; omega),List.take_take,Nat.min_eq_left (by omega)]
 have e2 : c2.drop (i + ys.length) = (cur.drop j).take (n - j) ++ cur.drop (i + m + ((cur.drop j).take (n - j)).length):=by rw [<- hc2]; exact zjq9 (by simp; omega)
 rw [e1,e2,show cur.take i ++ (ys ++ ((cur.drop j).take (n - j) ++ cur.drop (i + m + ((cur.drop j).take (n - j)).length))) = (cur.take i ++ (ys ++ (cur.drop j).take (n - j))) ++ cur.drop (i + m + ((cur.drop j).take (n - j)).length) by simp,zl9 (by simp; omega)]
theorem repEI (g cap i j n : Nat) (u : Value) (cur ys : List Value) (hr : Rw 3 w g cur) (hu : InI w u ys g) (h1 : ∀ y ∈ ys,y.oneCell' = true) (h1c : ∀ y ∈ (cur.drop j).take (n - j),y.oneCell' = true) (hi : i < j) (hj : j < n) (hn : n <= cap) (hc : cur.length = cap) (hm : cap <= 9223372036854775807) (hfit : j < i + ys.length) (hroom : i + ys.length + (n - j) <= cap) (hys : ys.length <= 1000000) (hnl : n <= 1000000) (hB : B <= g) :
  Calls Tryz.prog 164 #[.slice (some ⟨g,0,none⟩) n cap,.int .i64 (i : Int),.int .i64 (j : Int),u] w fun e w' => ∃ v',e = .returned v' /\ Trn B 3 w w' (.slice (some ⟨g,0,none⟩) n cap) v' (cur.take i ++ (ys ++ (cur.drop j).take (n - j))):=by
 obtain ⟨ua,uc,hus⟩:=hu.shape
 obtain ⟨m,hm2⟩:=exN ys.length
 obtain ⟨T,hT⟩:=exN (i + m + (n - j))
 rw [hm2] at hus
 subst hus
 rw [hm2] at hfit hroom hys
 rw [hT] at hroom
 have HMEM : Hid (∀ W,(∃ q,W = w.drewN q) -> MemEI B g cap i j n m T (.slice ua m uc) cur ys W):=fun W hW => by
  obtain ⟨q,rfl⟩:=hW
  exact memEI (B:=B) (w:=w.drewN q) g cap i j n m T (.slice ua m uc) cur ys hr (by exact hu) h1 h1c hi hj hn hc hm hfit hroom hB hm2 hT
 have mixed : Tryz.prog.follows .mixedOrders = true:=by kernel_rfl
 have z1 : ¬ ((i : Int) = (j : Int)):=by omega
 have z2 : (i : Int) <= (j : Int):=by omega
 have z3 : (j : Int) <= (cap : Int):=by omega
 have z4 : ¬ ((j : Int) = (n : Int)):=by omega
 have z5 : (i : Int) <= (cap : Int):=by omega
 have z6 : (j : Int) <= (n : Int):=by omega
 have z7 : ¬ (cap = j):=by omega
 have z8 : ¬ (cap = i):=by omega
 have z9 : ¬ (cap = i + m):=by omega
 have g3 : (i : Int) <= (T : Int):=by omega
 have g4 : (i : Int) + (m : Int) <= (T : Int):=by omega
 have g6 : (0 : Int) <= (i : Int) + (m : Int):=by omega
 have g7 : ((i : Int) + (m : Int)).toNat = i + m:=by omega
 have g12 : (T : Int) <= (cap : Int):=by omega
 have t1 : (i : Int) + (m : Int) + ((n - j : Nat) : Int) = ((T : Nat) : Int):=by omega
 have t2 : T <= 4611686018427387904:=by omega
 have w3 : ¬ ((T : Int) > (cap : Int)):=by omega
 have w4 : decide ((cap : Int) < (T : Int)) = false:=by rw [zn4]; omega
 have w5 : decide (cap < T) = false:=by rw [zn4]; omega
 have t4 : -4611686018427387904 <= (i : Int) + (m : Int) /\ (i : Int) + (m : Int) <= 4611686018427387904:=by omega
 have f1 : ¬ ((i : Int) + (m : Int) <= (j : Int)):=by omega
 have f2 : decide ((i : Int) + (m : Int) <= (j : Int)) = false:=by rw [zn4]; omega
 have w6:=zs9 t1 t2
 have w8:=zbf9 t4.1 t4.2
 clear t1 t2 t4 hu hr hm2 h1 h1c hm hc hT hfit hroom hys hnl
 go_enter Tryz.func164,Tryz.ntmps164
 go_wp2_with fail
 go_quiet (fail)
 obtain ⟨W,hW⟩:=exN (w.drewN nq)
 obtain ⟨W2,W3,hov,hC1,hC2,hF⟩:=HMEM.out W ⟨nq,hW.symm⟩
 have hov2:=hov W rfl
 have HF : Hid (Trn B 3 w W3 (.slice (some ⟨g,0,none⟩) n cap) (.slice (some ⟨g,0,none⟩) T cap) (cur.take i ++ (ys ++ (cur.drop j).take (n - j)))):=by
  have t0 : Tch (fun k => (Value.slice (some ⟨g,0,none⟩) n cap).ownBlock = some k) w W:=by rw [<- hW]; exact ⟨rfl,rfl,rfl,zn6 _,fun _ _ _ => rfl⟩
  refine ⟨hF.ow,t0.trans hF.tc (fun _ _ e => e),fun k hk => .inl hk⟩
 have HC1:=hideN hC1
 have HC2:=hideN hC2
 rw [hW]
 clear hC1 hC2 hF HMEM hW hov
 go_wp2_with fail
 go_region_law_o (refine step_copy_runI rfl (.tmp 126) (.tmp 129) 56 56 rfl (.slice (some ⟨g,i + m,none⟩) (T - (i + m)) (cap - (i + m))) (.slice (some ⟨g,j,none⟩) (n - j) (cap - j)) (by simp [Act.eval,Act.put]) (by simp [Act.eval,Act.put]) (HC1.out _) ?_)
 go_wp2_with (with_reducible (show wpList _ _ _ (Oper.mk _ (Op.call _) _ _ _ _ :: _) _ _); refine wpList_copy_runI _ rfl (.tmp 133) (.tmp 134) 56 56 rfl _ _ rfl rfl (HC2.out _) ?_)
 go_ret
 exact ⟨_,rfl,HF.out⟩
theorem zrc9 (v : Value) (cs : List Value) (i j : Nat) (u : Value) (ys : List Value) (h : OwV B 3 w v cs) (hu : OwV 0 3 w u ys) (hne : ∀ k,u.ownBlock = some k -> v.ownBlock ≠ some k) (h1c : ∀ y ∈ cs,y.oneCell' = true) (h1 : ∀ y ∈ ys,y.oneCell' = true) (hi : i < j) (hj : j <= cs.length) (hys : ys.length <= 1000000) (hnl : cs.length <= 1000000) (hB : B <= w.heap.size) :
  Calls Tryz.prog 164 #[v,.int .i64 (i : Int),.int .i64 (j : Int),u] w fun e w' => ∃ v',e = .returned v' /\ Trn B 3 w w' v v' (cs.take i ++ (ys ++ cs.drop j)):=by
 rcases h.rows with ⟨rfl,rfl⟩ | ⟨g,cap,cur,rfl,hBg,hr,hn,hm,hc,hk⟩
 ·simp at hj; omega
 ·have hI : InI w u ys g:=by
   rcases hu.rows with ⟨rfl,rfl⟩ | ⟨gu,cu,src,rfl,_,hru,q1,q2,q3,q4⟩
   ·exact .inl ⟨rfl,rfl⟩
   ·exact .inr ⟨gu,cu,src,rfl,hru,fun e => hne gu rfl (by rw [e]; rfl),q4,by omega⟩
  have hm' : cap <= 9223372036854775807:=by unfold maxLen at hm; omega
  have hti : cur.take i = cs.take i:=by rw [<- hk,List.take_take,Nat.min_eq_left (by omega)]
  have htd : (cur.drop j).take (cs.length - j) = cs.drop j:=by rw [<- hk,List.drop_take]; simp [hk]
  by_cases hjn : j = cs.length
  ·subst hjn
   rw [List.drop_of_length_le (zn6 _),List.append_nil,<- hti]
   by_cases hroom : i + ys.length <= cap
   ·exact repAI g cap i _ u cur ys hr hI h1 hi hn hc hm' hroom hBg
   ·exact repBI g cap i _ u cur ys hr hI h1 hi hn hc hm' (by omega) hys hnl hB
  ·have hjl : j < cs.length:=by omega
   have h1d : ∀ y ∈ (cur.drop j).take (cs.length - j),y.oneCell' = true:=fun y hy => by rw [htd] at hy; exact h1c y (List.mem_of_mem_drop hy)
   rw [<- htd,<- hti]
   by_cases hroom : i + ys.length + (cs.length - j) <= cap
   ·by_cases hfit : i + ys.length <= j
    ·exact repDI g cap i j _ u cur ys hr hI h1 h1d hi hjl hn hc hm' hfit hnl hBg
    ·exact repEI g cap i j _ u cur ys hr hI h1 h1d hi hjl hn hc hm' (by omega) hroom hys hnl hBg
   ·exact repCI g cap i j _ u cur ys hr hI h1 h1d hi hjl hn hc hm' (by omega) hys hnl hB
end
end Go.Proofs.YtjhccpijpffahaaGreat
