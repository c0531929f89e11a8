import Derived.Test.YtjhccpijpffahaaGreatPTRow
import Derived.Test.YtjhccpijpffahaaGreatPTLay
set_option maxRecDepth 100000
set_option linter.unusedVariables false
set_option linter.unusedSimpArgs false
set_option maxHeartbeats 8000000
namespace Go.Proofs.YtjhccpijpffahaaGreat
open Go.RowKit Go.Sort Go.Shelf Pl
section
variable {B : Nat} {w : World}
theorem zki9 (v : Value) (cs : List Value) (i : Nat) (x : Value) (gv : Nat) (h : OwV B 9 w v cs) (h1 : ∀ y ∈ cs,y.oneCell' = true) (hx : x.oneCell' = true) (hi : i <= cs.length) (hl : cs.length <= 1000000) (hg : Rw 9 w gv [x]) (hne : v.ownBlock ≠ some gv) (hB : B <= w.heap.size) :
  Calls Tryz.prog 52 #[v,.int .i64 (i : Int),.slice (some ⟨gv,0,none⟩) 1 1] w fun e w' => ∃ v',e = .returned v' /\ Trn B 9 w w' v v' (cs.take i ++ x :: cs.drop i):=by
 have hvs : ∀ j y,[x][j]? = some y -> w.cell? ⟨gv,0 + j,none⟩ = some y:=fun j y hj => by rw [Nat.zero_add,hg.cell]; exact hj
 have h1v : ∀ y ∈ [x],y.oneCell' = true:=fun y hy => by rw [List.mem_singleton.1 hy]; exact hx
 -- a new row
 have GRW : ∀ (c : Nat) (cur : List Value) (G : Nat) (w' : World),G = grownCap w (cs.length + 1) c 9 -> Tch (fun k => v.ownBlock = some k) w w' -> Rw 9 w' w.heap.size cur -> cur.length = G -> cur.take (cs.length + 1) = cs.take i ++ x :: cs.drop i →
   Trn B 9 w w' v (.slice (some ⟨w.heap.size,0,none⟩) (cs.length + 1) G) (cs.take i ++ x :: cs.drop i):=fun c cur G w' hG ht hr hc hk =>
  ⟨hr.owV hB hc (by rw [hG]; exact grownCap_le_maxLen w _ _ _ (by unfold maxLen; omega)) (by rw [hG]; exact grownCap_ge w _ _ _) hk,ht,fun k hk => .inr (by simp [Value.ownBlock] at hk; omega)⟩
 have EGR : ∀ (base : Option Addr) (c : Nat),v = .slice base cs.length c -> i = cs.length -> cs.length <= c -> c < cs.length + 1 -> (base = none -> cs.length = 0) -> (∀ a,base = some a -> ∀ j y,cs[j]? = some y -> w.cell? (a.add j) = some y) →
   Calls Tryz.prog 52 #[v,.int .i64 (i : Int),.slice (some ⟨gv,0,none⟩) 1 1] w fun e w' => ∃ v',e = .returned v' /\ Trn B 9 w w' v v' (cs.take i ++ x :: cs.drop i):=fun base c hv hin hc1 hc2 hb0 hcs => by
  subst hin
  subst hv
  refine (Any2.slices_Insert_string_end_grow Tryz.insS base cs.length c gv 0 1 1 cs [x] w (by omega) hc1 (by omega) (by omega) rfl rfl hb0 hcs hvs h1v).mono ?_
  rintro e w' ⟨rfl,rfl⟩
  refine ⟨_,rfl,?_⟩
  have hgc:=grownCap_ge w (cs.length + 1) c 9
  have er : ((cs ++ [x]).toArray ++ Builtin.zeroCells (Value.string ⟨#[]⟩).cells (grownCap w (cs.length + 1) c 9 - (cs.length + 1))) = (cs ++ [x] ++ List.replicate (grownCap w (cs.length + 1) c 9 - (cs.length + 1)) (Value.string ⟨#[]⟩)).toArray:=by
   rw [<- zm9 (z:=Value.string ⟨#[]⟩) rfl]
   simp
  refine GRW c (cs ++ [x] ++ List.replicate (grownCap w (cs.length + 1) c 9 - (cs.length + 1)) (Value.string ⟨#[]⟩)) _ _ rfl ((zp9 _ w).trans (zbg9 _ _ _) (fun _ _ e => e)) ?_ ?_ ?_
  ·show Rw _ (w.drew.alloc (.cells ((cs ++ [x]).toArray ++ Builtin.zeroCells (Value.string ⟨#[]⟩).cells (grownCap w (cs.length + 1) c 9 - (cs.length + 1))) _)) _ _
   rw [er]
   exact Rw.new w.drew _ _
  ·have e9 : Tryz.insS_ren.t 9 = 9:=rfl
   rw [e9]
   simp; omega
  ·rw [zl9 (by simp)]; simp
 rcases h.rows with ⟨rfl,rfl⟩ | ⟨g,cap,cur,rfl,hBg,hr,hn,hm,hc,hk⟩
 ·exact EGR none 0 rfl (by simpa using hi) (by simp) (by simp) (fun _ => rfl) (fun a e => by cases e)
 ·have hcs : ∀ j y,cs[j]? = some y -> w.cell? ⟨g,0 + j,none⟩ = some y:=fun j y hj => by
   rw [Nat.zero_add,hr.cell]
   have hj2:=(List.getElem?_eq_some_iff.1 hj).1
   rw [<- hk,List.getElem?_take,if_pos hj2] at hj
   exact hj
  have hgv : gv ≠ g:=fun e => hne (by rw [e]; rfl)
  by_cases hin : i = cs.length
  ·by_cases hroom : cs.length + 1 <= cap
   ·subst hin
    refine (Any2.slices_Insert_string_end_room Tryz.insS g 0 cs.length cap gv 0 1 1 [x] w (by omega) hroom (by unfold maxLen at hm; omega) rfl (fun j hj => by rw [Nat.zero_add]; exact hr.there (by omega)) (fun j hj => hr.fz _) hvs h1v).mono ?_
    rintro e w' ⟨rfl,rfl⟩
    rw [Nat.zero_add]
    refine ⟨_,rfl,?_,zb9 g _ _ _ |>.mono (fun k _ e => by rw [e]; rfl),fun k hk => .inl hk⟩
    have hs:=hr.set (o:=cs.length) (vs:=[x]) (by simp; omega)
    refine hs.owV hBg (by simp; omega) hm hroom ?_
    rw [hk,<- List.append_assoc,zl9 (by simp)]
    simp
   ·refine EGR (some ⟨g,0,none⟩) cap rfl hin hn (by omega) (fun e => by cases e) (fun a e j y hj => ?_)
    cases e
    rw [Addr.add_lit]
    exact hcs j y hj
  ·have hlt : i < cs.length:=by omega
   have hti : cur.take i = cs.take i:=by rw [<- hk,List.take_take,Nat.min_eq_left hi]
   by_cases hroom : cs.length + 1 <= cap
   ·refine (Any2.slices_Insert_string_shift Tryz.insS g 0 cs.length cap i gv 0 1 1 cs [x] w hlt (by omega) hroom (by unfold maxLen at hm; omega) hgv rfl rfl hcs (fun j hj => by rw [Nat.zero_add]; exact hr.there (by omega)) (fun j hj => hr.fz _) hvs h1 h1v 9 9 1 cur.length hg.shape hr.shape (by omega) (hg.fz _) (hg.fz _)).mono ?_
    rintro e w' ⟨rfl,rfl⟩
    rw [Nat.zero_add,Nat.zero_add]
    have s1:=hr.drew.set (o:=i + 1) (vs:=cs.drop i) (by simp; omega)
    have s2:=s1.set (o:=i) (vs:=[x]) (by simp; omega)
    refine ⟨_,rfl,?_,((zp9 _ w).trans (zb9 g _ _ _) (fun _ _ e => e)).trans (zb9 g _ _ _) (fun _ _ e => e) |>.mono (fun k _ e => by rw [e]; rfl),fun k hk => .inl hk⟩
    refine s2.owV hBg (by simp; omega) hm hroom ?_
    have e1 : (cur.take (i + 1) ++ (cs.drop i ++ cur.drop (i + 1 + (cs.drop i).length))).take i = cs.take i:=by
     rw [List.take_append_of_le_length (by simp; omega),List.take_take,Nat.min_eq_left (by omega),hti]
    have e2 : (cur.take (i + 1) ++ (cs.drop i ++ cur.drop (i + 1 + (cs.drop i).length))).drop (i + [x].length) = cs.drop i ++ cur.drop (i + 1 + (cs.drop i).length):=zjq9 (by simp; omega)
    rw [e1,e2,show cs.take i ++ ([x] ++ (cs.drop i ++ cur.drop (i + 1 + (cs.drop i).length))) = (cs.take i ++ x :: cs.drop i) ++ cur.drop (i + 1 + (cs.drop i).length) by simp,zl9 (by simp; omega)]
   ·refine (Any2.slices_Insert_string_grow Tryz.insS g 0 cs.length cap i gv 0 1 1 cs [x] w hlt (by omega) hn (by omega) (by omega) rfl rfl hcs hvs h1 h1v).mono ?_
    rintro e w' ⟨rfl,rfl⟩
    obtain ⟨G,hG⟩:=exN (grownCap w (cs.length + 1) cap 9)
    have hgc:=grownCap_ge w (cs.length + 1) cap 9
    show ∃ v',Ending.returned (.slice (some ⟨w.heap.size,0,none⟩) (cs.length + 1) (grownCap w (cs.length + 1) cap 9)) = _ /\ Trn _ _ _ ((((w.alloc (.cells ((cs.take i).toArray ++ Builtin.zeroCells (Value.string ⟨#[]⟩).cells (cs.length + 1 - i) ++ Builtin.zeroCells (Value.string ⟨#[]⟩).cells (grownCap w (cs.length + 1) cap 9 - (cs.length + 1))) 9)).drew.setCells w.heap.size i [x]).drew).setCells w.heap.size (i + 1) (cs.drop i)) _ _ _
    rw [hG] at hgc ⊢
    have er : ((cs.take i).toArray ++ Builtin.zeroCells (Value.string ⟨#[]⟩).cells (cs.length + 1 - i) ++ Builtin.zeroCells (Value.string ⟨#[]⟩).cells (G - (cs.length + 1))) = (cs.take i ++ (List.replicate (cs.length + 1 - i) (Value.string ⟨#[]⟩) ++ List.replicate (G - (cs.length + 1)) (Value.string ⟨#[]⟩))).toArray:=by
     rw [<- zm9 (z:=Value.string ⟨#[]⟩) rfl,<- zm9 (z:=Value.string ⟨#[]⟩) rfl]
     simp
    rw [er]
    obtain ⟨Z,hZ⟩:=exN ((List.replicate (cs.length + 1 - i) (Value.string ⟨#[]⟩) ++ List.replicate (G - (cs.length + 1)) (Value.string ⟨#[]⟩)))
    have lZ : Z.length = G - i:=by rw [<- hZ]; simp; omega
    rw [hZ]
    have r0 : Rw 9 (w.alloc (.cells (cs.take i ++ Z).toArray 9)).drew w.heap.size (cs.take i ++ Z):=(Rw.new w _ _).drew
    have s1:=r0.set (o:=i) (vs:=[x]) (by simp; omega)
    have s2:=s1.drew.set (o:=i + 1) (vs:=cs.drop i) (by simp; omega)
    have ta : Tch (fun k => k = w.heap.size) w (w.alloc (.cells (cs.take i ++ Z).toArray 9)).drew:=(zbg9 _ w _).trans (zp9 _ _) (fun _ _ e => e)
    have tb:=((ta.trans (zb9 w.heap.size [x] i _) (fun _ _ e => e)).trans (zp9 _ _) (fun _ _ e => e)).trans (zb9 w.heap.size (cs.drop i) (i + 1) _) (fun _ _ e => e)
    refine ⟨_,rfl,GRW cap _ G _ hG.symm (tb.mono (fun k hk e => by omega)) s2 (by simp; omega) ?_⟩
    have e1 : ((cs.take i ++ Z).take i ++ ([x] ++ (cs.take i ++ Z).drop (i + [x].length))).take (i + 1) = cs.take i ++ [x]:=by
     rw [zl9 (a:=cs.take i) (by simp; omega),<- List.append_assoc,zl9 (by simp; omega)]
    rw [e1,show cs.take i ++ [x] ++ (cs.drop i ++ ((cs.take i ++ Z).take i ++ ([x] ++ (cs.take i ++ Z).drop (i + [x].length))).drop (i + 1 + (cs.drop i).length)) = (cs.take i ++ x :: cs.drop i) ++ ((cs.take i ++ Z).take i ++ ([x] ++ (cs.take i ++ Z).drop (i + [x].length))).drop (i + 1 + (cs.drop i).length) by simp,zl9 (by simp; omega)]
theorem zjn9 (v : Value) (ss : List ByteArray) (i : Nat) (h : OwV B 9 w v (strs ss)) (hi : i < ss.length) :
  Calls Tryz.prog 55 #[v,.int .i64 (i : Int),.int .i64 ((i : Int) + 1)] w fun e w' => ∃ v',e = .returned v' /\ Trn B 9 w w' v v' (strs (ss.take i ++ ss.drop (i + 1))):=by
 rcases h.rows with ⟨rfl,h0⟩ | ⟨g,cap,cur,rfl,hBg,hr,hn,hm,hc,hk⟩
 ·rw [strs] at h0
  rw [List.map_eq_nil_iff] at h0
  subst h0
  simp at hi
 ·rw [zh9] at hn hk ⊢
  have hcs : ∀ j,j < ss.length -> w.cell? ⟨g,0 + j,none⟩ = some (.string (ss.getD j ⟨#[]⟩)):=fun j hj => by
   have : cur[j]? = some (.string (ss.getD j ⟨#[]⟩)):=by
    have h2 : (cur.take ss.length)[j]? = (strs ss)[j]?:=by rw [hk]
    rw [List.getElem?_take,if_pos hj] at h2
    rw [h2,strs,List.getElem?_map,List.getElem?_eq_getElem hj]
    simp [zn3,hj]
   rw [Nat.zero_add,hr.cell]; exact this
  have H:=AnyG.slices_Delete_string_cells Tryz.delS g 0 ss.length cap i (i + 1) (fun j => ss.getD j ⟨#[]⟩) w hn (by unfold maxLen at hm; omega) (by omega) (by omega) hcs (fun j hj => hr.fz _)
  refine H.mono ?_
  rintro e w' ⟨rfl,q,rfl⟩
  have e0 : (Lib.strsOf (fun j => ss.getD j ⟨#[]⟩) ss.length).map encStr = strs ss:=by
   apply List.ext_getElem
   ·simp [Lib.strsOf_length,strs]
   ·intro j h1 h2
    have hj : j < ss.length:=by simpa [strs] using h2
    simp [Lib.strsOf,strs,encStr,zn3,hj]
  have e1 : ((Lib.strsOf (fun j => ss.getD j ⟨#[]⟩) ss.length).take i ++ (Lib.strsOf (fun j => ss.getD j ⟨#[]⟩) ss.length).drop (i + 1) ++ List.replicate (i + 1 - i) []).map encStr = strs (ss.take i ++ ss.drop (i + 1)) ++ [encStr []]:=by
   rw [List.map_append,List.map_append,List.map_take,List.map_drop,e0,show i + 1 - i = 1 by omega]
   simp [strs,List.map_take,List.map_drop]
  have l1 : (strs (ss.take i ++ ss.drop (i + 1)) ++ [encStr []]).length = ss.length:=by rw [List.length_append,zh9]; simp; omega
  rw [e1]
  have hr' : Rw 9 (w.drewN q) g cur:=hr
  have s1:=hr'.set (o:=0) (vs:=strs (ss.take i ++ ss.drop (i + 1)) ++ [encStr []]) (by rw [l1]; omega)
  have t0 : Tch (fun k => k = g) w (w.drewN q):=⟨rfl,rfl,rfl,zn6 _,fun _ _ _ => rfl⟩
  refine ⟨_,rfl,s1.owV hBg ?_ hm (by omega) ?_,(t0.trans (zb9 g _ 0 _) (fun _ _ e => e)).mono (fun k _ e => by rw [e]; rfl),fun k hk => .inl hk⟩
  ·rw [List.take_zero,List.nil_append,List.length_append,l1,List.length_drop]; omega
  ·rw [List.take_zero,List.nil_append,List.append_assoc,zl9 (by rw [zh9]; simp; omega)]
end
end Go.Proofs.YtjhccpijpffahaaGreat
