import Derived.Test.YtjhccpijpffahaaGreatPRow0
import Derived.Lib.SlBuf
import Derived.Laws.IdiomCopy
set_option maxRecDepth 100000
set_option linter.unusedVariables false
set_option linter.unusedSimpArgs false
set_option maxHeartbeats 8000000
namespace Go.Proofs.YtjhccpijpffahaaGreat
open Go.RowKit
structure Nw (n1 : Nat) (w : World) (v : Value) (xs : List Int) : Prop where
 rd : Rd .u8 w v xs
 fz : ∀ b o n c,v = .slice (some ⟨b,o,none⟩) n c -> ∀ i,i < xs.length -> w.frozen? ⟨b,o + i,none⟩ = false
 new : ∀ k,v.ownBlock = some k -> n1 <= k
theorem Nw.of_owns {n1 : Nat} {w : World} {v : Value} {xs : List Int} (h : Owns .u8 5 w v xs) (hn : ∀ k,v.ownBlock = some k -> n1 <= k) : Nw n1 w v xs:=by
 refine ⟨h.rd,fun b o n c e i hi => ?_,hn⟩
 obtain ⟨g,cap,e2,_,_,_,_,hf⟩:=h.shape (by omega)
 rw [e] at e2
 simp only [Value.slice.injEq,Option.some.injEq,Addr.mk.injEq,and_true] at e2
 obtain ⟨⟨rfl,rfl⟩,_⟩:=e2
 exact hf _
theorem Nw.nil (n1 : Nat) (w : World) : Nw n1 w (.slice none 0 0) []:=⟨⟨none,0,rfl,zn6 _,by unfold maxLen; omega,fun _ => rfl,.inl rfl⟩,fun _ _ _ _ e => (by cases e),fun k e => by cases e⟩
theorem Nw.tch {S : Nat -> Prop} {n1 : Nat} {w w' : World} {v : Value} {xs : List Int} (h : Nw n1 w v xs) (ht : Tch S w w') (hs : ∀ k,v.ownBlock = some k -> ¬ S k) : Nw n1 w' v xs:=by
 refine ⟨h.rd.tch ht hs,fun b o n c e i hi => ?_,h.new⟩
 obtain ⟨a,cap,e2,_,_,_,hc⟩:=h.rd
 rcases hc with hx | ⟨b',o',e3,hc⟩
 ·rw [hx] at hi; simp at hi
 ·rw [e,e3] at e2
  simp only [Value.slice.injEq,Option.some.injEq,Addr.mk.injEq,and_true] at e2
  obtain ⟨⟨rfl,rfl⟩,_⟩:=e2
  rw [ht.frozen (p:=⟨b,o + i,none⟩) (World.block_lt_of_cell? w ⟨b,o + i,none⟩ (hc i hi)) (hs b (by rw [e]; rfl))]
  exact h.fz b o n c e i hi
theorem zml9 (v : Value) (xs : List Int) (w : World) (h : Rd .u8 w v xs) (hl : xs.length <= 140737488355328) :
  Calls Tryz.prog 94 #[v] w fun e w' => ∃ rv,e = .returned rv /\ Nw w.heap.size w' rv xs /\ Below w.heap.size w w':=by
 have H : Hid (Rd .u8 w v xs):=h
 have q22 : ∀ (w : World) (a : Option Addr) (n c n' c' : Nat),(binOp .eql 61 (.slice a n c) (.slice none n' c')).run Tryz.prog w = .ok (.bool a.isNone) w:=fun w a n c n' c' => Lib.run_eql_slice_nil w _ _ a n c n' c' Tryz.underlying61
 obtain ⟨a,cap,rfl,h1,h2,h3,h4⟩:=h
 cases a with
 | none =>
  have hc0:=h3 rfl
  subst hc0
  have hx : xs = []:=List.eq_nil_of_length_eq_zero (by omega)
  subst hx
  clear h1 h2 h3 h4 H
  simp only [List.length_nil]
  go_enter Tryz.func94,Tryz.ntmps94
  go_wp2
  go_ret
  exact ⟨_,rfl,Nw.nil _ _,Below.refl _ _⟩
 | some ad =>
  have HE : Hid (Owns .u8 5 (w.alloc (.cells #[] 5)) (.slice (some ⟨w.heap.size,0,none⟩) 0 0) []):=World.ownsRow_lit w #[] 0 (zn7 _) (by unfold maxLen; omega) rfl
  have HR : Hid (Rd .u8 (w.alloc (.cells #[] 5)) (.slice (some ad) xs.length cap) xs):=H.out.below ((Below.refl _ _).alloc (zn6 _) _)
  clear h1 h2 h3 h4
  go_enter Tryz.func94,Tryz.ntmps94
  go_wp2_with (at_builtin; refine ziy9 _ rfl (.tmp 5) (.tmp 6) 61 rfl 5 .u8 1 elem8 _ [] rfl HE.out _ xs rfl HR.out (by simp; omega) (by simp; omega) ?_)
  intro v1 w1 ho hg
  have hb : Below w.heap.size w w1:=((Below.refl _ _).alloc (zn6 _) _).trans (hg.tch.below (by simp) (fun k e => by simp only [Value.ownBlock,Option.some.injEq] at e; omega))
  have HN : Hid (Nw w.heap.size w1 v1 xs):=by
   refine Nw.of_owns (by simpa using ho) (fun k hk => ?_)
   rcases hg.fresh k hk with e | e
   ·simp only [Value.ownBlock,Option.some.injEq] at e; omega
   ·simp at e; omega
  have HB : Hid (Below w.heap.size w w1):=hb
  clear ho hg hb
  go_wp2_with fail
  go_ret
  exact ⟨v1,rfl,HN.out,HB.out⟩
end Go.Proofs.YtjhccpijpffahaaGreat
