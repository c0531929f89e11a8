import Derived.Test.YtcmjlibndmneiaaGreatPKMem
import Derived.Test.YtcmjlibndmneiaaGreatPDDirty
set_option maxRecDepth 100000
set_option linter.all false
set_option maxHeartbeats 8000000
namespace Go.Proofs.YtcmjlibndmneiaaGreat
open Go.RowKit Go.Maps Go.Sort Go.Shelf
def zlp9{l:List Nat}{N:Nat}(h:l.Pairwise (λ a b=>a<b))(u:∀n,n∈l->n<N):(List.range N).filter (λ i=>decide (i∈l))=l:=by refine List.Perm.eq_of_pairwise (le:=λ a b=>a<b) (λ a b _ _ A E=>by omega) (List.Pairwise.filter _ List.pairwise_lt_range) h ?_;refine(List.perm_ext_iff_of_nodup (List.Pairwise.filter _ List.nodup_range) (List.Pairwise.imp (fun{a b} h=>Nat.ne_of_lt h) h)).2 (λ a=>?_);simp only[List.mem_filter,List.mem_range,zo1];exact⟨λ e=>e.2,λ e=>⟨u a e,e⟩⟩
def kall(N:Nat)(s:CS):List Nat:=(List.range N).filter λ i=>decide (i∈s.d\/i∈s.c)
def zra9{N:Nat}{s:CS}{V:Nat->Value}:intKeys (Dm N (kg s V))=(kall N s).map Int.ofNat:=by
 rw[zdr9];unfold kall;congr 1;refine List.filter_congr λ i A=>?_;rw[Bool.eq_iff_iff,zo1];unfold kg;by_cases e:i∈s.d
 .simp[e]
 .by_cases u:i∈s.c
  .simp[e,u]
  .simp[e,u]
def zld9(N:Nat)(s:CS):((kall N s).map Int.ofNat).Pairwise (λ a b=>a<=b):=by rw[List.pairwise_map];refine List.Pairwise.filter _ (List.Pairwise.imp (fun{a b} (h:a<b)=>?_) List.pairwise_lt_range);exact Int.ofNat_le.2 (Nat.le_of_lt h)
def zrx9{u:List Int}{N:Nat}{s:CS}(h:u.Perm ((kall N s).map Int.ofNat)):u.mergeSort (λ x y=>decide (x<=y))=(kall N s).map Int.ofNat:=by
 have I:∀a b c:Int,decide (a<=b)=true->decide (b<=c)=true->decide (a<=c)=true:=λ a b c A E=>by simp only[zo1]at *;omega
 have H:∀a b:Int,(decide (a<=b)||decide (b<=a))=true:=λ a b=>by simp only[Bool.or_eq_true,zo1];omega
 refine List.Perm.eq_of_pairwise (le:=λ a b=>decide (a<=b)=true) (λ a b _ _ A E=>by simp only[zo1]at A E;omega) (List.pairwise_mergeSort I H u) ((zld9 N s).imp fun{a b} h=>by simpa using h) ((List.mergeSort_perm u _).trans h)
def zns9{N:Nat}{s:CS}{n:Nat}(h:n∈kall N s):n<N:=by have:=(List.mem_filter.1 h).1;simpa using this
def znr9{N:Nat}{s:CS}(u:COk N s):(kall N s).filter (λ n=>decide (n∈s.d))=s.d:=by unfold kall;rw[List.filter_filter];refine Eq.trans ?_ (zlp9 u.dr (λ n A=>(u.dl n A).2));refine List.filter_congr λ i _=>?_;by_cases e:i∈s.d<;>simp[e]
theorem zla9(k:Int)(v:Value)(b:Bool)(W:World):(Instr.field 127 (.agg #[.int .i64 k,v,.bool b]) 1).run Tryz.prog W=.ok (.bool b) W:=by kernel_rfl
theorem zkz9(k:Int)(v:Value)(b:Bool)(W:World):(Instr.field 127 (.agg #[.int .i64 k,v,.bool b]) 0).run Tryz.prog W=.ok (.agg #[.int .i64 k,v]) W:=by kernel_rfl
def zkv9{N:Nat}{s:CS}{V:Nat->Value}(c I q:Nat)(x:Fin 4096)(W:World)(E:COk N s)(Y:W.cell? ⟨q,0,none⟩=some (cp c))(h2:W.cell? ⟨c,2,none⟩=some (.map (some I)))(K:Mp W I N (kg s V))(H:∀n,n∈s.d\/n∈s.c->∃a m cap,V n=.slice a m cap):
 FnGives Tryz.prog 101 #[.pointer (some ⟨q,0,none⟩)] #[encF x] (.bool (!decide (x.val∈s.d))) W:=by
 show Calls Tryz.prog 101 #[.int .i64 (x.val:Int),.pointer (some ⟨q,0,none⟩)] W _;obtain⟨i,hi⟩:=x;simp only;have u:=K.lookH (i:=i) (by
  by_cases e:i<N
  .exact .inl e
  .refine .inr ?_;unfold kg;rw[if_neg (λ A=>e (E.dl i A).2),if_neg (λ A=>e (E.cl i A).2)]) (by omega)
 have R:∀(k:Int)(v:Value)(b:Bool),(∃a m cap,v=.slice a m cap)->(Instr.lookup 128 (.map (some I)) (.int .i64 (i:Int)) false).run Tryz.prog W=.ok (hent k v b) W->b=decide (i∈s.d)->Calls Tryz.prog 101 #[.int .i64 (i:Int),.pointer (some ⟨q,0,none⟩)] W λ e T=>e=.returned (.bool (!decide (i∈s.d)))/\∃q,T=W.drewN q:=by
  rintro k v b ⟨a,m,cap,rfl⟩ Q O;rw[<-O];unfold hent at Q;have a1:(i:Int)<4096:=by omega
  have a0:=λ W=>zla9 k (.slice a m cap) b W;clear u K E H O
  go_enter Tryz.func101,Tryz.ntmps101
  go_wp2_with fail;go_ret;exact⟨rfl,0,rfl⟩
 unfold gh kg at u;by_cases e:i∈s.d
 .rw[if_pos e]at u;exact R _ _ true (H i (.inl e)) u (by simp[e])
 .rw[if_neg e]at u;by_cases A:i∈s.c
  .rw[if_pos A]at u;exact R _ _ false (H i (.inr A)) u (by simp[e])
  .rw[if_neg A]at u;exact R _ _ false ⟨_,_,_,rfl⟩ u (by simp[e])
def zms9{X:Nat->Prop}{c d N:Nat}{s:CS}(w:World)(hC:Ch X w c d N s):
 Calls Tryz.prog 68 #[cp c] w λ e w'=>∃v,e=.returned v/\OwnsK w' v (s.d.map Int.ofNat)/\Below w.heap.size w w'/\∀k,v.ownBlock=some k->w.heap.size<=k:=by
 obtain⟨E,av,V,h⟩:=hC;have H:=za0 h;obtain⟨u,a3⟩:=exN (w.alloc (.cells #[cp c] 32));have B1:Hid (Below w.heap.size w u):=by rw[<-a3];exact(Below.refl _ _).alloc (zn6 _) _
 have I:=za0 (h.tch (R:=λ _=>False) (Tch.of_below B1.o) (λ _ _ e=>e));have s1:u.heap.size=w.heap.size+1:=by rw[<-a3];simp
 have q0:u.cell? ⟨w.heap.size,0,none⟩=some (cp c):=by rw[<-a3,cell_of_row _ w.heap.size 0 _ _ (0,0) (heap_alloc_new w _)];rfl
 have c2:=I.o.c2;have HP:Hid (intKeys (Dm N (kg s V))=(kall N s).map Int.ofNat):=zra9;have a1:=I.o.map;have ad:=zjh9 N (kg s V);have n2:=h.n2;obtain⟨D0,hD⟩:=exN (Dm N (kg s V));unfold Mp at a1;rw[hD]at HP a1 ad;have a6:Hid (∀W,Below u.heap.size u W->W.cell? ⟨w.heap.size,0,none⟩=some (cp c)):=λ W K=>by rw[Tch.cell (Tch.of_below (S:=λ _=>False) K) (p:=⟨w.heap.size,0,none⟩) (by show w.heap.size<u.heap.size;omega) (λ e=>e)];exact q0
 have a7:Hid (∀n,n∈s.d\/n∈s.c->∃a m cap,V n=.slice a m cap):=λ n hn=>by obtain⟨a,c,e,_⟩:=h.bod n hn;exact⟨_,_,_,e⟩
 clear h hD;refine(callsIn_wide (n:=6)).1 ?_;have a9:=a1.lt;have ac:SeqGives Fence.wide 2 Tryz.prog 133 #[.pointer (some ⟨u.heap.size,0,none⟩)] encZ (λ O=>O.Perm (intKeys D0)) (Maps.size D0) (u.alloc (.cells #[.map (some E)] 128)):=
  AnyZI.keys_gives (ρ:=Tryz.keysC_ren) { Tryz.keysC with } Fence.wide _ trivial rfl (by omega) u.heap.size E N D0 _ (by simp) (by simp) (by
   obtain⟨es,a2,K,Ft,hs,hD⟩:=a1;exact⟨es,a2,(Below.heap_alloc _ _ E a9).trans K,Ft,hs,hD⟩)
 have cK:∀m W,CallsIn Fence.wide 5 Tryz.prog 99 #[.map m] W λ e w'=>e=.returned (.func (.func 133) #[] #[.pointer (some ⟨W.heap.size,0,none⟩)])/\w'=W.alloc (.cells #[.map m] 128):=λ m W=>AnyZI.keys_in Tryz.keysC Fence.wide 5 trivial rfl m W;have cS:=AnyZI.sorted_in Tryz.sortedA Fence.wide 5 trivial trivial trivial trivial rfl (by omega) (Tryz.sortsA _) (enters_of Tryz.func66 (by kernel_rfl) rfl) 133 #[.pointer (some ⟨u.heap.size,0,none⟩)] trivial (enters_of Tryz.func133 (by kernel_rfl) rfl) _ _ (by unfold maxLen;omega) (by omega) _ ac;change CallsIn _ _ Tryz.prog 56 _ _ _ at cS;have am:Fence.wide.fn 99:=trivial;have an:Fence.wide.fn 56:=trivial;have al:Fence.wide.fn 100:=trivial
 have ak:∀W,(Instr.makeFunc (.func 101) #[] #[.pointer (some ⟨w.heap.size,0,none⟩)]).run Tryz.prog W=.ok (.func (.func 101) #[] #[.pointer (some ⟨w.heap.size,0,none⟩)]) W:=λ W=>rfl;have a5:Hid (∀(A:World)(v:Value)(O:List Int),O.Perm (intKeys D0)->A.ownsRow (u.alloc (.cells #[.map (some E)] 128)).heap.size 3 1 v O.length ((O.mergeSort (λ x y=>decide (x<=y))).map (Value.int .i64))->Below (u.alloc (.cells #[.map (some E)] 128)).heap.size (u.alloc (.cells #[.map (some E)] 128)) A->
  CallsIn Fence.wide 5 Tryz.prog 100 #[v,.func (.func 101) #[] #[.pointer (some ⟨w.heap.size,0,none⟩)]] A λ e w'=>∃v',e=.returned v'/\OwnsK w' v' (s.d.map Int.ofNat)/\Below w.heap.size w w'/\∀k,v'.ownBlock=some k->w.heap.size<=k):=λ A v O T Q K=>by
  refine callsIn_wide.2 ?_;rw[HP.o]at T;rw[zrx9 T]at Q;have hl:O.length=((kall N s).map Int.ofNat).length:=T.length_eq;rw[hl]at Q;have af:=Q.lt;have hO:OwnsK A v ((kall N s).map Int.ofNat):=ownsRow_base_a Q (zn7 _);have ao:(u.alloc (.cells #[.map (some E)] 128)).heap.size=u.heap.size+1:=by simp
  have a0:Below u.heap.size u A:=((Below.refl _ u).alloc (zn6 _) _).trans (K.mono (by omega));have a4:∀k,v.ownBlock=some k->u.heap.size<k:=λ k Y=>by have:=(af k Y).1;omega
  have H3:ChAt X A c d N s E av V:=I.o.tch (R:=λ _=>False) (Tch.of_below a0) (λ _ _ e=>e);have a8:∀k,X k->k<u.heap.size:=I.o.xlt;refine(zua9 101 #[.pointer (some ⟨w.heap.size,0,none⟩)] (λ x=>!decide (x.val∈s.d)) v (kall N s) A hO (λ n hn=>by have:=zns9 hn;omega) (enters_of Tryz.func101 (by kernel_rfl) rfl) (λ W x hW=>?_)).mono ?_
  .have hx:∀k,k<u.heap.size->W.heap[k]?=A.heap[k]?:=λ k Y=>hW k (zn1 Y a0.size) (λ e=>by have:=a4 k e;omega);refine zkv9 c E w.heap.size x W I.o.ok ?_ ?_ ?_ a7.o (V:=V)
   .rw[World.cell?_of_block (w:=A) (hx w.heap.size (by omega))];exact a6.o A a0
   .rw[World.cell?_of_block (w:=A) (hx c (a8 c I.o.xc))];exact H3.c2
   .obtain⟨es,a2,hq,aj⟩:=H3.map;exact⟨es,a2,(hx E (a8 E I.o.xm)).trans hq,aj⟩
  .rintro e w4 ⟨v',rfl,ab,ai,ah⟩;refine⟨v',rfl,?_,?_,λ k Y=>?_⟩
   .have e1:(kall N s).filter (λ n=>!(λ x:Fin 4096=>!decide (x.val∈s.d)) (Fin.ofNat 4096 n))=s.d:=by refine Eq.trans (List.filter_congr λ n hn=>?_) (znr9 I.o.ok);(have:n<4096:=by have:=zns9 hn;omega);simp[Nat.mod_eq_of_lt this]
    rw[e1]at ab;exact ab
   .exact(B1.o.trans (a0.mono (by omega))).trans (ah.below (zn2 B1.o.size a0.size) (λ k e=>by have:=a4 k e;omega))
   .rw[ai]at Y;have:=a4 k Y;omega
 clear ac a1 a9 ad s1 a6 a7 H I HP B1;refine callsIn_of_wp Tryz.func68 rfl trivial ?_ rfl;simp only[Tryz.ntmps68,List.size_toArray,zk0,List.length_nil,Nat.reduceAdd,Nat.reduceSub,Array.replicate_succ,Array.replicate_zero,List.push_toArray,List.append_toArray,List.nil_append,List.cons_append]
 gi_wp2_with (first
  | (gi_at_call 99;refine(cK _ _).mono ?_;rintro e w' ⟨rfl,rfl⟩)
  | (gi_at_call 56;refine cS.mono ?_;rintro e w' ⟨v,O,rfl,T,Q,ag,K⟩;have HH:=zb0 (a5.o _ _ _ T Q K);clear T Q ag K a5)
  | (gi_at_call 100;refine HH.o.mono ?_;rintro e ap ⟨v',rfl,aa⟩;have ae:=zb0 aa;clear aa))
 go_ret;exact⟨_,rfl,ae.o⟩
