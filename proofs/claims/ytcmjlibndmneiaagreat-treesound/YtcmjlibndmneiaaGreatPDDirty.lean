import Derived.Test.YtcmjlibndmneiaaGreatPDMap
import Derived.Test.YtcmjlibndmneiaaGreatPDLay
set_option maxRecDepth 100000
set_option linter.all false
set_option maxHeartbeats 8000000
namespace Go.Proofs.YtcmjlibndmneiaaGreat
open Go.RowKit Go.Maps Go.Sort Go.Shelf
def zdr9(n:Nat)(g:Nat->Option Value):intKeys (Dm n g)=((List.range n).filter λ i=>(g i).isSome).map Int.ofNat:=by
 show(ents n g).map (λ p=>_)=_;unfold ents;generalize List.range n=l;induction l with
 | nil=>rfl
 | cons i r u=>
  cases e:g i with
  | none=>simp[List.filterMap_cons,e]at u |-;exact u
  | some v=>simp[List.filterMap_cons,e]at u |-;exact⟨rfl,u⟩
def DkAt.dirty{S:Nat->Prop}{w:World}{d:Nat}{s:DS}{u vb A:Nat}{g:Nat->Option Value}(h:DkAt S w d s u vb A g):intKeys (Dm s.L.length g)=s.dirty.map Int.ofNat:=by
 rw[zdr9];unfold DS.dirty;congr 1;refine List.filter_congr λ i E=>?_;rw[Bool.eq_iff_iff,zo1];cases e:g i with
 | none=>simp[h.no i e]
 | some v=>simp[(h.yes i v e).2.1]
def zhz9(s:DS):(s.dirty.map Int.ofNat).Pairwise (λ a b=>a<=b):=by rw[List.pairwise_map];unfold DS.dirty;refine List.Pairwise.filter _ (List.Pairwise.imp (fun{a b} (h:a<b)=>?_) List.pairwise_lt_range);exact Int.ofNat_le.2 (Nat.le_of_lt h)
def zph9{u:List Int}{s:DS}(h:u.Perm (s.dirty.map Int.ofNat)):u.mergeSort (λ x y=>decide (x<=y))=s.dirty.map Int.ofNat:=by
 have I:∀a b c:Int,decide (a<=b)=true->decide (b<=c)=true->decide (a<=c)=true:=λ a b c A E=>by simp only[zo1]at *;omega
 have H:∀a b:Int,(decide (a<=b)||decide (b<=a))=true:=λ a b=>by simp only[Bool.or_eq_true,zo1];omega
 refine List.Perm.eq_of_pairwise (le:=λ a b=>decide (a<=b)=true) (λ a b _ _ A E=>by simp only[zo1]at A E;omega) (List.pairwise_mergeSort I H u) ((zhz9 s).imp fun{a b} h=>by simpa using h) ((List.mergeSort_perm u _).trans h)
def zqo9(s:DS):s.dirty.length<=s.L.length:=by have:=List.length_filter_le (λ i=>decide (s.V i≠[])) (List.range s.L.length);simpa[DS.dirty]using this
def zqn9{S:Nat->Prop}{d:Nat}{s:DS}(w:World)(hd:Dk S w d s):
 Calls Tryz.prog 72 #[dp d] w λ e w'=>∃v,e=.returned v/\Owns .i64 3 w' v (s.dirty.map Int.ofNat)/\Below w.heap.size w w'/\∀k,v.ownBlock=some k->w.heap.size<=k:=by
 obtain⟨lb,T,lc,g,h⟩:=hd;have c1:=h.c1;have Y:Hid (intKeys (Dm s.L.length g)=s.dirty.map Int.ofNat):=h.dirty;have u:=h.map;have a1:=zjh9 s.L.length g;have n2:=h.n2;obtain⟨H,A⟩:=exN (Dm s.L.length g);unfold Mp at u;rw[A]at Y u a1;obtain⟨nn,a0⟩:=exN s.L.length;rw[a0]at u a1 n2;clear h A a0;refine(callsIn_wide (n:=6)).1 ?_;have a3:=u.lt;have a5:SeqGives Fence.wide 2 Tryz.prog 135 #[.pointer (some ⟨w.heap.size,0,none⟩)] encZ (λ Q=>Q.Perm (intKeys H)) (Maps.size H) (w.alloc (.cells #[.map (some T)] 134)):=
  AnyZI.keys_gives (ρ:=Tryz.keysA_ren) { Tryz.keysA with } Fence.wide _ trivial rfl (by omega) w.heap.size T nn H _ (by simp) (by simp) (by
   obtain⟨es,a2,K,Ft,hs,A⟩:=u;exact⟨es,a2,(Below.heap_alloc _ _ T a3).trans K,Ft,hs,A⟩)
 have cK:∀E W,CallsIn Fence.wide 5 Tryz.prog 103 #[.map E] W λ e w'=>e=.returned (.func (.func 135) #[] #[.pointer (some ⟨W.heap.size,0,none⟩)])/\w'=W.alloc (.cells #[.map E] 134):=λ E W=>AnyZI.keys_in Tryz.keysA Fence.wide 5 trivial rfl E W;have cS:=AnyZI.sorted_in Tryz.sortedA Fence.wide 5 trivial trivial trivial trivial rfl (by omega) (Tryz.sortsA _) (enters_of Tryz.func66 (by kernel_rfl) rfl) 135 #[.pointer (some ⟨w.heap.size,0,none⟩)] trivial (enters_of Tryz.func135 (by kernel_rfl) rfl) _ _ (by unfold maxLen;omega) (by omega) _ a5;change CallsIn _ _ Tryz.prog 56 _ _ _ at cS;have a6:Fence.wide.fn 103:=trivial;have a7:Fence.wide.fn 56:=trivial
 refine callsIn_of_wp Tryz.func72 rfl trivial ?_ rfl;simp only[Tryz.ntmps72,List.size_toArray,zk0,List.length_nil,Nat.reduceAdd,Nat.reduceSub,Array.replicate_succ,Array.replicate_zero,List.push_toArray,List.append_toArray,List.nil_append,List.cons_append]
 gi_wp2_with (first
  | (gi_at_call 103;refine(cK _ _).mono ?_;rintro e w' ⟨rfl,rfl⟩)
  | (gi_at_call 56;refine cS.mono ?_;rintro e w' ⟨v,Q,rfl,I,O,a8,K⟩))
 go_ret;rw[Y.o]at I;have h1:=zph9 I;have hl:Q.length=(s.dirty.map Int.ofNat).length:=I.length_eq;rw[h1,hl]at O;have a4:=O.lt;refine⟨v,rfl,ownsRow_base_a O (zn7 _),((Below.refl _ w).alloc (zn6 _) _).trans (K.mono (by simp)),λ k hk=>?_⟩;have:=(a4 k hk).1;simp at this;omega
