import Derived.KernelRfl
set_option maxRecDepth 100000
set_option linter.unusedVariables false
set_option linter.unusedSimpArgs false
set_option maxHeartbeats 8000000
namespace Go.Proofs.YtjhccpijpffahaaGreat.Pl
def bv (f : Nat -> Int) : Nat -> Int
 | 0 => 0
 | n + 1 => bv f n + f n * 2 ^ n
def val (bs : List Int) (p n : Nat) : Int:=bv (fun i => bs.getD (p + i) 0) n
end Go.Proofs.YtjhccpijpffahaaGreat.Pl
namespace Go.Proofs.YtjhccpijpffahaaGreat.Ah
abbrev G (ps : List Int) (i : Nat) : Int:=ps.getD i 0
def swp (ps : List Int) (i j : Nat) : List Int:=(ps.set i (G ps j)).set j (G ps i)
theorem zbc9 (ps : List Int) (i j : Nat) : (swp ps i j).length = ps.length:=by simp [swp]
theorem zgl9 (ps : List Int) {i j : Nat} (hi : i < ps.length) (hj : j < ps.length) : (swp ps i j).Perm ps:=by
 have h:=Array.swap_perm (xs:=ps.toArray) (i:=i) (j:=j) (by simpa using hi) (by simpa using hj)
 have e : (ps.toArray.swap i j (by simpa using hi) (by simpa using hj)).toList = swp ps i j:=by
  simp [Array.swap_def,swp,G,List.getD_eq_getElem?_getD,hi,hj]
 have:=Array.perm_iff_toList_perm.1 h
 rw [e] at this
 simpa using this
theorem zdf9 (ps : List Int) {i j : Nat} (hi : i < ps.length) (hj : j < ps.length) (k : Nat) : G (swp ps i j) k = if k = j then G ps i else if k = i then G ps j else G ps k:=by
 unfold G swp
 simp only [List.getD_eq_getElem?_getD,List.getElem?_set,List.length_set]
 by_cases h1 : k = j
 ·subst h1; simp [hj]
 ·by_cases h2 : k = i
  ·subst h2
   rw [if_neg (fun e => h1 e.symm),if_neg h1]
   simp [hi]
  ·rw [if_neg (fun e => h1 e.symm),if_neg (fun e => h2 e.symm),if_neg h1,if_neg h2]
def Ch (a c : Nat) : Prop:=c = 2 * a + 1 ∨ c = 2 * a + 2
def Heap (ps : List Int) (n : Nat) : Prop:=∀ a c,Ch a c -> c < n -> G ps a <= G ps c
def Hx (ps : List Int) (n i : Nat) : Prop:=(∀ a c,a ≠ i -> c ≠ i -> Ch a c -> c < n -> G ps a <= G ps c) /\ ∀ p c,Ch p i -> Ch i c -> c < n -> G ps p <= G ps c
def Ux (ps : List Int) (n i : Nat) : Prop:=(∀ a c,c ≠ i -> Ch a c -> c < n -> G ps a <= G ps c) /\ ∀ p c,Ch p i -> Ch i c -> c < n -> G ps p <= G ps c
def Dx (ps : List Int) (n i : Nat) : Prop:=(∀ a c,a ≠ i -> Ch a c -> c < n -> G ps a <= G ps c) /\ ∀ p c,Ch p i -> Ch i c -> c < n -> G ps p <= G ps c
structure Dn (ps0 ps : List Int) (n i0 k : Nat) : Prop where
 perm : ps.Perm ps0
 rest : ∀ j,n <= j -> G ps j = G ps0 j
 ge : i0 <= k
 nl : n <= ps.length
 ok : (k = i0 /\ Hx ps n i0) ∨ (i0 < k /\ Dx ps n k)
theorem Dn.start {ps : List Int} {n i0 : Nat} (h : Hx ps n i0) (hn : n <= ps.length) : Dn ps ps n i0 i0:=
 ⟨List.Perm.refl _,fun _ _ => rfl,Nat.le_refl _,hn,.inl ⟨rfl,h⟩⟩
theorem Dn.stop {ps0 ps : List Int} {n i0 k : Nat} (h : Dn ps0 ps n i0 k) (hc : ∀ c,Ch k c -> c < n -> G ps k <= G ps c) : (i0 < k -> Heap ps n) /\ (¬ i0 < k -> Ux ps n i0):=by
 refine ⟨fun hk a c h2 h3 => ?_,fun hk => ?_⟩
 ·rcases h.ok with ⟨e,_⟩ | ⟨_,hd,_⟩
  ·omega
  ·by_cases e : a = k
   ·subst e; exact hc c h2 h3
   ·exact hd a c e h2 h3
 ·rcases h.ok with ⟨e,hx,hu⟩ | ⟨e,_⟩
  ·subst e
   refine ⟨fun a c h1 h2 h3 => ?_,hu⟩
   by_cases e : a = k
   ·subst e; exact hc c h2 h3
   ·exact hx a c e h1 h2 h3
  ·omega
theorem Dn.sink {ps0 ps : List Int} {n i0 k j : Nat} (h : Dn ps0 ps n i0 k) (hj : Ch k j) (hn : j < n) (hm : ∀ c,Ch k c -> c < n -> G ps j <= G ps c) (hl : G ps j < G ps k) : Dn ps0 (swp ps k j) n i0 j:=by
 have hnl:=h.nl
 have hge:=h.ge
 have hkj : k < j:=by unfold Ch at hj; omega
 have hi' : k < ps.length:=by omega
 have hj' : j < ps.length:=by omega
 have g:=zdf9 ps hi' hj'
 have h1 : ∀ a c,a ≠ k -> c ≠ k -> Ch a c -> c < n -> G ps a <= G ps c:=by
  rcases h.ok with ⟨e,hx,_⟩ | ⟨_,hd,_⟩
  ·subst e; exact hx
  ·exact fun a c e _ => hd a c e
 have h2 : ∀ p c,Ch p k -> Ch k c -> c < n -> G ps p <= G ps c:=by
  rcases h.ok with ⟨e,_,hu⟩ | ⟨_,_,hu⟩
  ·subst e; exact hu
  ·exact hu
 refine ⟨(zgl9 ps hi' hj').trans h.perm,fun i hi => ?_,by omega,by rw [zbc9]; exact hnl,.inr ⟨by omega,fun a c e1 e3 e4 => ?_,fun p c e2 e3 e4 => ?_⟩⟩
 ·rw [g,if_neg (by omega),if_neg (by omega)]; exact h.rest i hi
 ·rw [g a,g c,if_neg e1]
  by_cases ea : a = k
  ·subst ea
   rw [if_pos rfl]
   by_cases ec : c = j
   ·rw [if_pos ec]; omega
   ·rw [if_neg ec,if_neg (by unfold Ch at e3; omega)]; exact hm c e3 e4
  ·rw [if_neg ea]
   by_cases ec : c = j
   ·subst ec; unfold Ch at hj e3; omega
   ·rw [if_neg ec]
    by_cases ec2 : c = k
    ·subst ec2; rw [if_pos rfl]; exact h2 a j e3 hj hn
    ·rw [if_neg ec2]; exact h1 a c ea ec2 e3 e4
 ·have ep : p = k:=by unfold Ch at e2 hj; omega
  subst ep
  rw [g p,g c,if_neg (by omega),if_pos rfl,if_neg (by unfold Ch at e3; omega),if_neg (by unfold Ch at e3; omega)]
  exact h1 j c (by omega) (by unfold Ch at e3; omega) e3 e4
structure Up (ps0 ps : List Int) (n j : Nat) : Prop where
 perm : ps.Perm ps0
 rest : ∀ k,n <= k -> G ps k = G ps0 k
 jn : j = 0 ∨ j < n
 nl : n <= ps.length
 ux : Ux ps n j
theorem Up.top {ps0 ps : List Int} {n : Nat} (h : Up ps0 ps n 0) : Heap ps n:=fun a c h2 h3 => h.ux.1 a c (by unfold Ch at h2; omega) h2 h3
theorem Up.stop {ps0 ps : List Int} {n p j : Nat} (h : Up ps0 ps n j) (hp : Ch p j) (hl : ¬ G ps j < G ps p) : Heap ps n:=by
 intro a c h2 h3
 by_cases e : c = j
 ·subst e
  have : a = p:=by unfold Ch at h2 hp; omega
  subst this
  omega
 ·exact h.ux.1 a c e h2 h3
theorem Up.rise {ps0 ps : List Int} {n p j : Nat} (h : Up ps0 ps n j) (hp : Ch p j) (hl : G ps j < G ps p) : Up ps0 (swp ps p j) n p:=by
 have hjn : j < n:=by rcases h.jn with e | e; (· unfold Ch at hp; omega); (· exact e)
 have hnl:=h.nl
 have hpj : p < j:=by unfold Ch at hp; omega
 have hp' : p < ps.length:=by omega
 have hj' : j < ps.length:=by omega
 have g:=zdf9 ps hp' hj'
 have ok:=h.ux.1
 have up:=h.ux.2
 refine ⟨(zgl9 ps hp' hj').trans h.perm,fun k hk => ?_,.inr (by omega),by rw [zbc9]; exact hnl,fun a c h1 h2 h3 => ?_,fun q c h1 h2 h3 => ?_⟩
 ·rw [g,if_neg (by omega),if_neg (by omega)]; exact h.rest k hk
 ·rw [g a,g c]
  by_cases ec : c = j
  ·have ea : a = p:=by unfold Ch at h2 hp; omega
   subst ea; subst ec
   rw [if_neg (by omega),if_pos rfl,if_pos rfl]
   omega
  ·rw [if_neg ec,if_neg h1]
   by_cases ea : a = j
   ·subst ea; rw [if_pos rfl]; exact up p c hp h2 h3
   ·rw [if_neg ea]
    by_cases ea2 : a = p
    ·subst ea2; rw [if_pos rfl]; exact Int.le_trans (Int.le_of_lt hl) (ok a c ec h2 h3)
    ·rw [if_neg ea2]; exact ok a c ec h2 h3
 ·have hq : G ps q <= G ps p:=ok q p (by omega) h1 (by omega)
  rw [g q,g c,if_neg (by unfold Ch at h1; omega),if_neg (by unfold Ch at h1; omega)]
  by_cases ec : c = j
  ·subst ec; rw [if_pos rfl]; exact hq
  ·rw [if_neg ec,if_neg (by unfold Ch at h2; omega)]
   exact Int.le_trans hq (ok p c ec h2 h3)
theorem Heap.least {ps : List Int} {n : Nat} (h : Heap ps n) : ∀ k,k < n -> G ps 0 <= G ps k:=by
 intro k
 induction k using Nat.strongRecOn with
 | ind k ih =>
  intro hk
  by_cases h0 : k = 0
  ·subst h0; exact Int.le_refl _
  ·have hc : Ch ((k - 1) / 2) k:=by unfold Ch; omega
   exact Int.le_trans (ih ((k - 1) / 2) (by omega) (by omega)) (h _ k hc hk)
theorem mem_G {ps : List Int} {x : Int} (h : x ∈ ps) : ∃ k,k < ps.length /\ G ps k = x:=by
 obtain ⟨k,hk,e⟩:=List.mem_iff_getElem.1 h
 exact ⟨k,hk,by simp [G,List.getD_eq_getElem?_getD,hk,e]⟩
theorem G_mem {ps : List Int} {k : Nat} (h : k < ps.length) : G ps k ∈ ps:=by
 simp [G,List.getD_eq_getElem?_getD,h]
theorem Up.push {ps : List Int} {x : Int} (h : Heap ps ps.length) : Up (ps ++ [x]) (ps ++ [x]) (ps.length + 1) ps.length:=by
 refine ⟨List.Perm.refl _,fun _ _ => rfl,.inr (by omega),by simp,fun a c h1 h2 h3 => ?_,fun p c h1 h2 h3 => by unfold Ch at h2; omega⟩
 have e : ∀ k,k < ps.length -> G (ps ++ [x]) k = G ps k:=fun k hk => by simp [G,List.getD_eq_getElem?_getD,List.getElem?_append_left hk]
 rw [e c (by omega),e a (by unfold Ch at h2; omega)]
 exact h a c h2 (by omega)
theorem Hx.swap {ps : List Int} {n i : Nat} (h : Heap ps ps.length) (hn : ps.length = n + 1) (hi : i <= n) : Hx (swp ps i n) n i:=by
 have g:=zdf9 ps (i:=i) (j:=n) (by omega) (by omega)
 refine ⟨fun a c h1 h2 h3 h4 => ?_,fun p c h1 h2 h3 => ?_⟩
 ·have:=h3
  unfold Ch at this
  rw [g a,g c,if_neg (by omega),if_neg h1,if_neg (by omega),if_neg h2]
  exact h a c h3 (by omega)
 ·have q1:=h1
  have q2:=h2
  unfold Ch at q1 q2
  rw [g p,g c,if_neg (by omega),if_neg (by omega),if_neg (by omega),if_neg (by omega)]
  exact Int.le_trans (h p i h1 (by omega)) (h i c h2 (by omega))
theorem znw9 {ps qs : List Int} {n i : Nat} (hl : ps.length = n + 1) (hi : i <= n) (hq : qs.Perm (swp ps i n)) (hr : ∀ k,n <= k -> G qs k = G (swp ps i n) k) :
  G qs n = G ps i /\ ps.Perm (G ps i :: qs.take n):=by
 have hql : qs.length = n + 1:=by rw [hq.length_eq,zbc9,hl]
 have e : G qs n = G ps i:=by rw [hr n (Nat.le_refl _),zdf9 ps (by omega) (by omega),if_pos rfl]
 refine ⟨e,?_⟩
 have h1 : qs = qs.take n ++ [G qs n]:=by
  have : qs.take (n + 1) = qs:=List.take_of_length_le (by omega)
  conv => lhs; rw [<- this,List.take_succ_eq_append_getElem (by omega)]
  simp [G,List.getD_eq_getElem?_getD,hql]
 have h2 : ps.Perm qs:=(hq.trans (zgl9 ps (by omega) (by omega))).symm
 rw [h1,e] at h2
 exact h2.trans (List.perm_append_comm)
theorem Heap.take {ps : List Int} {n : Nat} (h : Heap ps n) : Heap (ps.take n) n:=by
 have e : ∀ k,k < n -> G (ps.take n) k = G ps k:=fun k hk => by simp [G,List.getD_eq_getElem?_getD,hk]
 intro a c h2 h3
 rw [e c h3,e a (by unfold Ch at h2; omega)]
 exact h a c h2 h3
def Pls (ns ps : List Int) : Prop:=∀ i,i < ns.length -> 0 <= G ns i /\ (G ns i).toNat < ps.length /\ G ps (G ns i).toNat = i
theorem Pls.inj {ns ps : List Int} (h : Pls ns ps) {i j : Nat} (hi : i < ns.length) (hj : j < ns.length) (e : G ns i = G ns j) : i = j:=by
 have a:=(h i hi).2.2
 have b:=(h j hj).2.2
 rw [e,b] at a
 omega
theorem G_set (ps : List Int) (i : Nat) (x : Int) (k : Nat) (hi : i < ps.length) : G (ps.set i x) k = if k = i then x else G ps k:=by
 unfold G
 simp only [List.getD_eq_getElem?_getD,List.getElem?_set]
 by_cases h : k = i
 ·subst h; simp [hi]
 ·rw [if_neg (fun e => h e.symm),if_neg h]
theorem Pls.swap {ns ps : List Int} (h : Pls ns ps) {i j : Nat} (hi : i < ns.length) (hj : j < ns.length) :
  Pls (swp ns i j) ((ps.set (G ns j).toNat i).set (G ns i).toNat j):=by
 obtain ⟨i0,i1,i2⟩:=h i hi
 obtain ⟨j0,j1,j2⟩:=h j hj
 intro k hk
 rw [zbc9] at hk
 obtain ⟨k0,k1,k2⟩:=h k hk
 have hne : ∀ a,a < ns.length -> a ≠ k -> (G ns k).toNat ≠ (G ns a).toNat:=fun a ha hak e => hak (h.inj ha hk (by have:=(h a ha).1; omega))
 rw [zdf9 ns hi hj k]
 simp only [List.length_set]
 by_cases h1 : k = j
 ·subst h1
  rw [if_pos rfl]
  exact ⟨i0,i1,by rw [G_set _ _ _ _ (by simpa using i1),if_pos rfl]⟩
 ·rw [if_neg h1]
  by_cases h2 : k = i
  ·subst h2
   rw [if_pos rfl]
   refine ⟨j0,j1,?_⟩
   rw [G_set _ _ _ _ (by simpa using i1),if_neg (fun e => hne j hj (fun e => h1 e.symm) e.symm),G_set _ _ _ _ j1,if_pos rfl]
  ·rw [if_neg h2]
   refine ⟨k0,k1,?_⟩
   rw [G_set _ _ _ _ (by simpa using i1),if_neg (hne i hi (fun e => h2 e.symm)),G_set _ _ _ _ j1,if_neg (hne j hj (fun e => h1 e.symm))]
   exact k2
theorem Pls.push {ns ps : List Int} (h : Pls ns ps) {n : Nat} (hn : n < ps.length) (hm : (n : Int) ∉ ns) : Pls (ns ++ [(n : Int)]) (ps.set n ns.length):=by
 intro k hk
 simp only [List.length_append,List.length_cons,List.length_nil] at hk
 by_cases hkl : k < ns.length
 ·obtain ⟨k0,k1,k2⟩:=h k hkl
  have e : G (ns ++ [(n : Int)]) k = G ns k:=by simp [G,List.getD_eq_getElem?_getD,List.getElem?_append_left hkl]
  rw [e]
  refine ⟨k0,by simpa using k1,?_⟩
  rw [G_set _ _ _ _ hn,if_neg,k2]
  intro e2
  exact hm (by have : (n : Int) = G ns k:=(by omega); rw [this]; exact G_mem hkl)
 ·have : k = ns.length:=by omega
  subst this
  have e : G (ns ++ [(n : Int)]) ns.length = n:=by simp [G]
  rw [e]
  exact ⟨by omega,by simpa using hn,by rw [G_set _ _ _ _ hn,if_pos (by simp)]⟩
theorem Pls.take {ns ps : List Int} (h : Pls ns ps) (n : Nat) : Pls (ns.take n) ps:=by
 intro k hk
 rw [List.length_take] at hk
 have e : G (ns.take n) k = G ns k:=by simp only [G,List.getD_eq_getElem?_getD,List.getElem?_take]; rw [if_pos (by omega)]
 rw [e]
 exact h k (by omega)
theorem Pls.nodup {ns ps : List Int} (h : Pls ns ps) : ns.Nodup:=by
 rw [List.nodup_iff_pairwise_ne,List.pairwise_iff_getElem]
 intro i j hi hj hij e
 have:=h.inj hi hj (by simpa [G,List.getD_eq_getElem?_getD,hi,hj] using e)
 omega
structure St where
 lo : Nat
 L : List Int
 as : Nat
structure Sok (s : St) : Prop where
 top : s.lo + s.L.length <= 65536
 val : ∀ i,i < s.L.length -> G s.L i = 0 ∨ G s.L i = 1 ∨ G s.L i = 2
 aside : s.as <= s.L.count 0
def stv (s : St) (n : Int) : Int:=if (s.lo : Int) <= n /\ n < s.lo + s.L.length then G s.L (n - s.lo).toNat else -1
def sts (lo : Nat) (L : List Int) : List Int:=List.replicate lo 0 ++ L.map (· + 1)
def fre (s : St) : Int:=(s.L.count 0 : Int) - s.as
theorem zde9 (lo : Nat) (L : List Int) : (sts lo L).length = lo + L.length:=by simp [sts]
theorem stv_in {s : St} {i : Nat} (hi : i < s.L.length) : stv s ((s.lo + i : Nat) : Int) = G s.L i:=by
 unfold stv
 rw [if_pos (by omega)]
 congr 1
 omega
theorem zlu9 {s : St} {n : Int} (h : n < s.lo ∨ (s.lo + s.L.length : Nat) <= n) : stv s n = -1:=by
 unfold stv
 rw [if_neg (by omega)]
theorem zdz9 {s : St} {n : Int} (h : stv s n ≠ -1) : ∃ i : Nat,i < s.L.length /\ n = ((s.lo + i : Nat) : Int) /\ stv s n = G s.L i:=by
 by_cases hc : (s.lo : Int) <= n /\ n < s.lo + s.L.length
 ·refine ⟨(n - s.lo).toNat,by omega,by omega,?_⟩
  unfold stv
  rw [if_pos hc]
 ·unfold stv at h
  rw [if_neg hc] at h
  exact absurd rfl h
theorem sts_at (s : St) (n : Nat) (h : n < s.lo + s.L.length) : G (sts s.lo s.L) n = stv s n + 1:=by
 unfold sts G
 by_cases hn : n < s.lo
 ·rw [zlu9 (.inl (by omega)),List.getD_eq_getElem?_getD,List.getElem?_append_left (by simpa using hn)]
  simp [hn]
 ·obtain ⟨i,rfl⟩ : ∃ i,n = s.lo + i:=⟨n - s.lo,by omega⟩
  rw [stv_in (by omega),List.getD_eq_getElem?_getD,List.getElem?_append_right (by simp)]
  simp [G,List.getD_eq_getElem?_getD,show i < s.L.length by omega]
theorem zpf9 (lo : Nat) (L : List Int) (i : Nat) (y : Int) : (sts lo L).set (lo + i) (y + 1) = sts lo (L.set i y):=by
 unfold sts
 rw [List.set_append_right _ _ (by simp)]
 simp [List.map_set]
theorem cnt_set (L : List Int) (i : Nat) (h : i < L.length) (x y : Int) : (L.set i y).count x + (if G L i = x then 1 else 0) = L.count x + (if y = x then 1 else 0):=by
 induction L generalizing i with
 | nil => simp at h
 | cons a r ih =>
  cases i with
  | zero =>
   simp only [List.set_cons_zero,List.count_cons,G,List.getD_cons_zero,beq_iff_eq]
   omega
  | succ i =>
   have:=ih i (by simpa using h)
   simp only [List.set_cons_succ,List.count_cons,G,List.getD_cons_succ,beq_iff_eq] at this ⊢
   omega
def put (s : St) (i : Nat) (y : Int) : St:=⟨s.lo,s.L.set i y,s.as⟩
theorem stv_put {s : St} {i : Nat} (hi : i < s.L.length) (y : Int) (n : Int) : stv (put s i y) n = if n = ((s.lo + i : Nat) : Int) then y else stv s n:=by
 unfold stv put
 simp only [List.length_set]
 by_cases hc : (s.lo : Int) <= n /\ n < s.lo + s.L.length
 ·rw [if_pos hc,if_pos hc,G_set _ _ _ _ hi]
  by_cases e : n = ((s.lo + i : Nat) : Int)
  ·rw [if_pos (by omega),if_pos e]
  ·rw [if_neg (by omega),if_neg e]
 ·rw [if_neg hc,if_neg hc,if_neg (by omega)]
theorem zoz9 {s : St} (h : ∀ i,i < s.L.length -> G s.L i = 0 ∨ G s.L i = 1 ∨ G s.L i = 2) {i : Nat} (hi : i < s.L.length) {y : Int} (hy : y = 0 ∨ y = 1 ∨ y = 2) : ∀ j,j < (put s i y).L.length -> G (put s i y).L j = 0 ∨ G (put s i y).L j = 1 ∨ G (put s i y).L j = 2:=by
 intro j hj
 have : G (put s i y).L j = if j = i then y else G s.L j:=G_set _ _ _ _ hi
 rw [this]
 split
 ·exact hy
 ·exact h j (by simpa [put] using hj)
structure Ks (x : Int) (s : St) (ns : List Int) : Prop where
 mem : ∀ n,n ∈ ns ↔ stv s n = x
 len : ns.length = s.L.count x
 nd : ns.Nodup
theorem Ks.idx {x : Int} {s : St} {ns : List Int} (h : Ks x s ns) (hx : 0 <= x) {n : Int} (hn : n ∈ ns) : ∃ i : Nat,i < s.L.length /\ n = ((s.lo + i : Nat) : Int) /\ G s.L i = x:=by
 have:=(h.mem n).1 hn
 obtain ⟨i,h1,h2,h3⟩:=zdz9 (s:=s) (n:=n) (by omega)
 exact ⟨i,h1,h2,by omega⟩
theorem Ks.add {x : Int} {s : St} {ns qs : List Int} (h : Ks x s ns) {i : Nat} (hi : i < s.L.length) (hne : G s.L i ≠ x) (hp : qs.Perm (ns ++ [((s.lo + i : Nat) : Int)])) : Ks x (put s i x) qs:=by
 have e:=stv_in hi
 refine ⟨fun n => ?_,?_,?_⟩
 ·rw [hp.mem_iff,stv_put hi]
  simp only [List.mem_append,List.mem_cons,List.not_mem_nil,or_false,h.mem]
  by_cases hn : n = ((s.lo + i : Nat) : Int)
  ·rw [if_pos hn]; simp [hn]
  ·rw [if_neg hn]; exact ⟨fun e => e.resolve_right hn,.inl⟩
 ·have:=cnt_set s.L i hi x x
  rw [if_neg hne,if_pos rfl] at this
  rw [hp.length_eq]
  simp only [List.length_append,List.length_cons,List.length_nil,put,h.len]
  omega
 ·rw [hp.nodup_iff,List.nodup_append]
  refine ⟨h.nd,by simp,fun a ha b hb => ?_⟩
  simp only [List.mem_cons,List.not_mem_nil,or_false] at hb
  subst hb
  intro e2
  subst e2
  exact hne (by rw [<- e]; exact (h.mem _).1 ha)
theorem Ks.sub {x y : Int} {s : St} {ns qs : List Int} (h : Ks x s ns) {i : Nat} (hi : i < s.L.length) (hx : G s.L i = x) (hy : y ≠ x) (hp : ns.Perm (((s.lo + i : Nat) : Int) :: qs)) : Ks x (put s i y) qs:=by
 have nd:=h.nd
 rw [hp.nodup_iff,List.nodup_cons] at nd
 refine ⟨fun n => ?_,?_,nd.2⟩
 ·rw [stv_put hi]
  have hm:=h.mem n
  rw [hp.mem_iff,List.mem_cons] at hm
  by_cases hn : n = ((s.lo + i : Nat) : Int)
  ·rw [if_pos hn]
   subst hn
   exact ⟨fun e => absurd e nd.1,fun e => absurd e hy⟩
  ·rw [if_neg hn,<- hm]
   exact ⟨.inr,fun e => e.resolve_left hn⟩
 ·have:=cnt_set s.L i hi x y
  rw [if_pos hx,if_neg hy] at this
  have hl:=h.len
  rw [hp.length_eq] at hl
  simp only [List.length_cons] at hl
  simp only [put]
  omega
theorem Ks.other {x y : Int} {s : St} {ns : List Int} (h : Ks x s ns) {i : Nat} (hi : i < s.L.length) (hx : G s.L i ≠ x) (hy : y ≠ x) : Ks x (put s i y) ns:=by
 refine ⟨fun n => ?_,?_,h.nd⟩
 ·rw [h.mem,stv_put hi]
  by_cases hn : n = ((s.lo + i : Nat) : Int)
  ·rw [if_pos hn]
   subst hn
   rw [stv_in hi]
   exact ⟨fun e => absurd e hx,fun e => absurd e hy⟩
  ·rw [if_neg hn]
 ·have:=cnt_set s.L i hi x y
  rw [if_neg hx,if_neg hy] at this
  rw [h.len]
  simp only [put]
  omega
theorem Ks.aside {x : Int} {s : St} {ns : List Int} (h : Ks x s ns) (a : Nat) : Ks x ⟨s.lo,s.L,a⟩ ns:=⟨h.mem,h.len,h.nd⟩
def mrk (n : Int) (s : St) : Bool × St:=if stv s n ≠ 0 ∨ fre s < 1 then (false,s) else (true,put s (n - s.lo).toNat 1)
def back (n : Int) (s : St) : Bool × St:=if stv s n ≠ 1 then (false,s) else (true,put s (n - s.lo).toNat 0)
def drop (n : Int) (s : St) : Bool × St:=if stv s n ≠ 1 then (false,s) else (true,put s (n - s.lo).toNat 2)
def stl (s : St) : St:=⟨s.lo,s.L.map (fun x => if x = 2 then 0 else x),s.as⟩
def take (s : St) : Int × Bool × St:=if s.L.count 0 = 0 then (0,false,s) else (((s.lo + s.L.idxOf 0 : Nat) : Int),true,⟨s.lo,s.L.set (s.L.idxOf 0) 1,s.as - 1⟩)
def rsv (n : Int) (s : St) : Bool × St:=if n < 0 ∨ n > fre s then (false,s) else (true,⟨s.lo,s.L,s.as + n.toNat⟩)
def rls (s : St) : St:=⟨s.lo,s.L,0⟩
theorem zrq9 {s : St} (h : Sok s) (n : Int) : Sok (back n s).2:=by
 unfold back
 split
 ·exact h
 ·obtain ⟨i,hi,hn,e⟩:=zdz9 (s:=s) (n:=n) (by omega)
  have e2 : (n - s.lo).toNat = i:=by omega
  rw [e2]
  refine ⟨by simpa [put] using h.top,zoz9 h.val hi (by omega),?_⟩
  have:=cnt_set s.L i hi 0 0
  rw [if_neg (by omega),if_pos rfl] at this
  simp only [put]
  have:=h.aside
  omega
theorem first0 {L : List Int} (h : L.count 0 ≠ 0) : L.idxOf 0 < L.length /\ G L (L.idxOf 0) = 0 /\ ∀ j,j < L.idxOf 0 -> G L j ≠ 0:=by
 have hm : (0 : Int) ∈ L:=List.count_pos_iff.1 (by omega)
 have hl : L.idxOf 0 < L.length:=List.idxOf_lt_length_of_mem hm
 refine ⟨hl,?_,fun j hj => ?_⟩
 ·simp [G,List.getD_eq_getElem?_getD,hl]
 ·have hjl : j < L.length:=by omega
  have:=List.not_of_lt_findIdx (p:=(· == (0 : Int))) (xs:=L) (i:=j) (by simpa [List.idxOf] using hj)
  simpa [G,List.getD_eq_getElem?_getD,hjl] using this
theorem ztw9 {s : St} (h : Sok s) : Sok (take s).2.2:=by
 unfold take
 split
 ·exact h
 ·rename_i hc
  obtain ⟨hl,h0,_⟩:=first0 hc
  refine ⟨by simpa using h.top,zoz9 (s:=s) h.val hl (by omega),?_⟩
  have:=cnt_set s.L _ hl 0 1
  rw [if_pos h0,if_neg (by omega)] at this
  simp only
  have:=h.aside
  omega
def pk (c : Int) (n : Int) : Int:=if c < 0 then (-(c + 1)).tmod n else c.tmod n
def stp (k n : Int) (s : St) : St:=
 if k = 0 then (take s).2.2 else if k = 1 then (mrk n s).2 else if k = 2 then (back n s).2 else if k = 3 then (drop n s).2 else if k = 4 then stl s else if k = 5 then (rsv n s).2 else rls s
def new (lo hi : Nat) : St:=⟨lo,List.replicate (hi - lo) 0,0⟩
theorem new_ok {lo hi : Nat} (h : lo <= hi) (h2 : hi <= 65536) : Sok (new lo hi):=
 ⟨by simp [new]; omega,fun i hi' => .inl (by simp only [new,List.length_replicate] at hi'; simp [new,G,List.getD_eq_getElem?_getD,hi']),Nat.zero_le _⟩
end Go.Proofs.YtjhccpijpffahaaGreat.Ah
