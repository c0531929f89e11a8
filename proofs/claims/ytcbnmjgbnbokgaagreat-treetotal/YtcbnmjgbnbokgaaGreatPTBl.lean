import Derived.Test.YtcbnmjgbnbokgaaGreatPTRpl
import Derived.Test.YtcbnmjgbnbokgaaGreatPTJnd
set_option maxRecDepth 100000
set_option linter.unusedVariables false
set_option linter.unusedSimpArgs false
set_option maxHeartbeats 8000000
namespace Go.Proofs.YtcbnmjgbnbokgaaGreat
open Go.RowKit Pl
structure SzT (n : Nd) : Prop where
 sm : Sm n
 k : n.ks.length <= 500
 v : n.vs.length <= 500
 d : n.kd.length <= 500
structure Vk (n : Nd) : Prop where
 may : mayN n = true
 sm : Sm n
theorem Vk.len {m : Nd} (h : Vk m) : m.ks.length <= 240 /\ m.vs.length <= 240 /\ m.kd.length <= 240:=by
 have hm:=zz9.1 h.may
 have hr:=zej9 hm (by have:=h.sm.kl; omega)
 have h1:=enc_le hr (zn6 _)
 rw [zjm9 hr (zn6 _)] at h1
 have h2:=szN_ge m m.ks.length
 obtain ⟨_,_,_,h3⟩:=hm
 split at h3
 ·obtain ⟨_,e1,e2⟩:=h3
  omega
 ·obtain ⟨_,e1,e2⟩:=h3
  omega
theorem Vk.sz {m : Nd} (h : Vk m) : SzT m:=by have:=h.len; exact ⟨h.sm,by omega,by omega,by omega⟩
theorem Vk.pos {m : Nd} (h : Vk m) : 1 <= m.ks.length:=(zz9.1 h.may).1
theorem Vk.leaf {m : Nd} (h : Vk m) (hl : m.lf = true) : m.vs.length = m.ks.length /\ m.kd.length = 0:=by
 obtain ⟨_,_,_,h3⟩:=zz9.1 h.may
 rw [if_pos hl] at h3
 exact h3.2
theorem Vk.inner {m : Nd} (h : Vk m) (hl : m.lf = false) : (∀ i,i < m.kd.length -> 0 <= dA m i /\ dA m i <= 65535) /\ m.kd.length = m.ks.length /\ m.vs.length = 0:=by
 obtain ⟨_,_,_,h3⟩:=zz9.1 h.may
 rw [if_neg (by rw [hl]; decide)] at h3
 exact h3
theorem zdn9 {l : List ByteArray} {B : Nat} (h : ∀ i,(l.getD i eS).size <= B) : ∀ s ∈ l,s.size <= B:=fun s hs => by
 obtain ⟨i,hi,rfl⟩:=List.getElem_of_mem hs
 have:=h i
 rw [zn3,List.getElem?_eq_getElem hi] at this
 exact this
theorem Sm.km {n : Nd} (h : Sm n) : ∀ s ∈ n.ks,s.size <= 140737488351232:=zdn9 h.ks
theorem Sm.vm {n : Nd} (h : Sm n) : ∀ s ∈ n.vs,s.size <= 140737488351232:=zdn9 h.vs
theorem sz_of {n : Nd} (h1 : ∀ s ∈ n.ks,s.size <= 140737488351232) (h2 : ∀ s ∈ n.vs,s.size <= 140737488351232) (k : n.ks.length <= 500) (v : n.vs.length <= 500) (d : n.kd.length <= 500) : SzT n:=
 ⟨⟨fun i => zbo9 h1 i,fun i => zbo9 h2 i,by omega,by omega,by omega⟩,k,v,d⟩
theorem zll9 : SzT noneN:=sz_of (by simp [noneN]) (by simp [noneN]) (by simp [noneN]) (by simp [noneN]) (by simp [noneN])
theorem zen9 {n : Nd} (h : SzT n) : ∀ p ∈ piecesF n,SzT p:=by
 intro p hp
 unfold piecesF at hp
 split at hp
 ·cases hp
 ·split at hp
  ·rw [List.mem_singleton.1 hp]; exact h
  ·split at hp
   ·rcases List.mem_cons.1 hp with rfl | hp
    ·have e : joinN n noneN = n:=by
      cases n
      simp [joinN,noneN]
     rw [e]; exact h
    ·rw [List.mem_singleton.1 hp]; exact zll9
   ·rcases List.mem_cons.1 hp with rfl | hp
    ·exact sz_of (fun s hs => h.sm.km s (List.mem_of_mem_take hs)) (fun s hs => h.sm.vm s (List.mem_of_mem_take hs)) (by have:=h.k; simp only [takeN,List.length_take]; omega) (by have:=h.v; simp only [takeN,List.length_take]; omega) (by have:=h.d; simp only [takeN,List.length_take]; omega)
    ·rw [List.mem_singleton.1 hp]
     exact sz_of (fun s hs => h.sm.km s (List.mem_of_mem_drop hs)) (fun s hs => h.sm.vm s (List.mem_of_mem_drop hs)) (by have:=h.k; simp only [dropN,List.length_drop]; omega) (by have:=h.v; simp only [dropN,List.length_drop]; omega) (by have:=h.d; simp only [dropN,List.length_drop]; omega)
theorem zcv9 (n : Nd) : (piecesF n).length <= 2:=by
 unfold piecesF
 split
 ·simp
 ·split
  ·simp
  ·split <;> simp
def setK (n : Nd) (i : Nat) (k : ByteArray) : Nd:={ n with ks:=n.ks.set i k }
theorem zmu9 {x y : ByteArray} {B : Nat} (hx : x.size <= B) (hy : y.size <= B) : (minS x y).size <= B:=by unfold minS; split <;> assumption
theorem zfy9 (n : Nd) (i : Nat) (k : ByteArray) : (setK n i k).ks.length = n.ks.length:=by simp [setK]
theorem zsk9 {n : Nd} (h : Sm n) {i : Nat} {k : ByteArray} (hk : k.size <= 140737488351232) : Sm (setK n i k):=by
 refine ⟨fun j => zbo9 (fun s hs => ?_) j,h.vs,by rw [zfy9]; exact h.kl,h.vl,h.dl⟩
 rcases List.mem_or_eq_of_mem_set hs with e | e
 ·exact h.km s e
 ·rw [e]; exact hk
theorem zmn9 (a : AS) (c : CH) (ps : List Nd) : (kidsF a c ps).xs.length <= ps.length:=by
 induction ps generalizing a c with
 | nil => simp [kidsF]
 | cons p r ih =>
  unfold kidsF
  split
  ·simp
  ·have:=ih (writeF a c p).a (writeF a c p).c
   simp only [List.length_cons]; omega
theorem zmm9 (a : AS) (c : CH) (ps : List Nd) : (kidsF a c ps).c.tk.length <= c.tk.length + ps.length /\ (kidsF a c ps).c.gn = c.gn /\ (kidsF a c ps).c.lv = c.lv:=by
 induction ps generalizing a c with
 | nil => simp [kidsF]
 | cons p r ih =>
  have hw:=zcl9 a c p
  unfold kidsF
  split
  ·exact ⟨by simp only [List.length_cons]; omega,hw.2.1,hw.2.2⟩
  ·have:=ih (writeF a c p).a (writeF a c p).c
   exact ⟨by simp only [List.length_cons]; omega,this.2.1.trans hw.2.1,this.2.2.trans hw.2.2⟩
theorem zai9 (a : AS) (c : CH) {n : Nd} (i j : Nat) {ps : List Nd} (hs : Sm n) (hl : n.ks.length <= 240 /\ n.vs.length <= 240 /\ n.kd.length <= 240) (hp : ∀ p ∈ ps,Sm p) (h2 : ps.length <= 2) : SzT (replaceF a c n i j ps).n:=by
 unfold replaceF
 split
 ·exact zll9
 ·have hx:=zmn9 a c ps
  have hkl:=zef9 (kA n i) ps
  refine sz_of (fun s hs' => ?_) (fun s hs' => hs.vm s hs') ?_ (by simp only [zcw9]; omega) ?_
  ·simp only [zcw9,List.mem_append] at hs'
   rcases hs' with e | e | e
   ·exact hs.km s (List.mem_of_mem_take e)
   ·cases ps with
    | nil => cases e
    | cons p r =>
     rcases List.mem_cons.1 e with rfl | e
     ·exact hs.ks i
     ·obtain ⟨q,hq,rfl⟩:=List.mem_map.1 e
      exact (hp q (List.mem_cons_of_mem _ hq)).ks 0
   ·exact hs.km s (List.mem_of_mem_drop e)
  ·simp only [zcw9,List.length_append,List.length_take,List.length_drop]; omega
  ·simp only [zcw9,List.length_append,List.length_take,List.length_drop]; omega
theorem zbl9 (a : AS) (c : CH) (n : Nd) (i j : Nat) (ps : List Nd) : (replaceF a c n i j ps).c.tk.length <= c.tk.length + ps.length /\ (replaceF a c n i j ps).c.gn = c.gn /\ (replaceF a c n i j ps).c.lv = c.lv:=by
 unfold replaceF
 split <;> exact zmm9 a c ps
theorem zao9 (a : AS) (c : CH) (x : Int) : (leaveF a c x).gn.length <= c.gn.length + 1 /\ (leaveF a c x).tk = c.tk /\ (leaveF a c x).lv = c.lv:=by
 unfold leaveF
 split
 ·exact ⟨by simp,rfl,rfl⟩
 ·exact ⟨by omega,rfl,rfl⟩
structure JOk (c : CH) (n : Nd) (r : JR) : Prop where
 gn : r.c.gn.length <= c.gn.length + 1
 tk : r.c.tk = c.tk
 lv : r.c.lv = c.lv
 sz : SzT r.n
 ij : r.e = 0 -> r.i < r.j /\ r.j <= n.kd.length /\ r.i <= 1000 /\ r.j <= 1002
theorem znp9 {a : AS} (hV : ∀ x,(a.V x).1 = 0 -> Vk (a.V x).2) (c : CH) {n p : Nd} {at_ lv : Nat} (hp : SzT p) (hat : at_ < n.kd.length) (hn : n.kd.length <= 1000) {b : Int} (hb : b = (at_ : Int) - 1 ∨ b = (at_ : Int) + 1) {r : JR} (h : besF a c n at_ lv p b = some r) : JOk c n r:=by
 unfold besF at h
 split at h
 ·cases h
 ·rename_i hbr
  have hin : 0 <= b /\ b < (n.kd.length : Int):=by omega
  split at h
  ·cases h
   exact ⟨by simp,rfl,rfl,zll9,fun e => absurd e (by assumption)⟩
  ·rename_i h0
   have hv : Vk (look a (dA n b.toNat) (lv + 1)).2:=by
    unfold look at h0 ⊢
    split
    ·rename_i hl
     rw [if_pos hl] at h0
     exact absurd (by decide) h0
    ·rename_i hl
     rw [if_neg hl] at h0
     exact hV _ (by simpa using h0)
   have hvl:=hv.len
   have hc:=zao9 a c (dA n b.toNat)
   split at h
   ·split at h
    ·rename_i hm
     cases h
     have hsm:=zbx9 hv.sm hp.sm (by have:=hp.k; omega) (by have:=hp.v; omega) (by have:=hp.d; omega)
     exact ⟨hc.1,hc.2.1,hc.2.2,(Vk.mk hm hsm).sz,fun _ => ⟨by simp only; omega,by simp only; omega,by simp only; omega,by simp only; omega⟩⟩
    ·cases h
   ·split at h
    ·rename_i hm
     cases h
     have hsm:=zbx9 hp.sm hv.sm (by have:=hp.k; omega) (by have:=hp.v; omega) (by have:=hp.d; omega)
     exact ⟨hc.1,hc.2.1,hc.2.2,(Vk.mk hm hsm).sz,fun _ => ⟨by simp only; omega,by simp only; omega,by simp only; omega,by simp only; omega⟩⟩
    ·cases h
theorem zkb9 {a : AS} (hV : ∀ x,(a.V x).1 = 0 -> Vk (a.V x).2) (c : CH) {n p : Nd} {at_ lv : Nat} (hp : SzT p) (hat : at_ < n.kd.length) (hn : n.kd.length <= 1000) : JOk c n (joinedF a c n at_ lv p):=by
 unfold joinedF
 split
 ·rename_i r h
  exact znp9 hV c hp hat hn (.inl rfl) h
 ·split
  ·rename_i r h
   exact znp9 hV c hp hat hn (.inr rfl) h
  ·exact ⟨by simp,rfl,rfl,hp,fun _ => ⟨by simp,by simp only; omega,by simp only; omega,by simp only; omega⟩⟩
end Go.Proofs.YtcbnmjgbnbokgaaGreat
