/-
  A journal over a disk, both new since w0.
-/
import Derived.Test.YtaacidgihhcpkaaJApp
import Derived.Test.YtaacidgihhcpkaaJOpen
import Derived.Test.YtaacidgihhcpkaaDNew
namespace Go.Proofs.Ytaacidgihhcpkaa
open Go.RowKit Go.Maps Pl
set_option linter.unusedVariables false
set_option linter.unusedSimpArgs false
set_option maxRecDepth 100000

structure Jd (S : Nat → Prop) (w0 w : World) (d : Nat) (s : DS) (j g m a : Nat) : Prop where
  dk : Dk S w d s
  be : Below w0.heap.size w0 w
  s0 : ∀ k, S k → w0.heap.size ≤ k
  jb : Jb w j d g m a
  nj : ¬ S j
  j0 : w0.heap.size ≤ j
  a2 : 2 ≤ a
  a5 : a ≤ 50
  l5 : 50 ≤ s.L.length
  g1 : 1 ≤ g
  g2 : g ≤ 4294967295
  m2 : m ≤ 48
section
variable {S : Nat → Prop} {w0 w w' : World} {d : Nat} {s : DS} {j g m a : Nat}
theorem Jd.below (h : Jd S w0 w d s j g m a) (hb : Below w.heap.size w w') : Jd S w0 w' d s j g m a :=
  { h with dk := h.dk.below hb, be := h.be.trans (hb.mono h.be.size), jb := Bo.below h.jb hb }
theorem Jd.dkTo (h : Jd S w0 w d s j g m a) {s' : DS} (hd : DkTo S w w' d s') (hL : s'.L.length = s.L.length) : ∃ S', Jd S' w0 w' d s' j g m a := by
  obtain ⟨S', h1, h2, h3⟩ := hd
  refine ⟨S', { h with dk := h1, be := h.be.trans (h2.below h.be.size h.s0), s0 := fun k hk => ?_, jb := Bo.tch h.jb h2 h.nj, nj := fun e => ?_, l5 := by rw [hL]; exact h.l5 }⟩
  · rcases h3 k hk with e | e
    · exact h.s0 k e
    · exact Nat.le_trans h.be.size e
  · rcases h3 j e with e | e
    · exact h.nj e
    · have := Bo.lt h.jb; omega
theorem Jd.arg (h : Jd S w0 w d s j g m a) {v : Value} {ys : List Int} (hr : Rd .u8 w0 v ys) : Rd .u8 w v ys ∧ ∀ k, v.ownBlock = some k → ys ≠ [] → ¬ S k :=
  ⟨hr.below h.be, fun k hk h0 e => by have := hr.blk_lt h0 hk; have := h.s0 k e; omega⟩

/-- What an Append does. -/
def ApJ (S : Nat → Prop) (w0 w : World) (d : Nat) (s : DS) (j g m a : Nat) (ys : List Int) (e : Ending) (w' : World) : Prop :=
  (npc ys.length ≤ 50 - a ∧ e = .returned (.int .i64 0) ∧ ∃ S', Jd S' w0 w' d (jap s g (m + 1) a ys (npc ys.length)) j g (m + 1) (a + npc ys.length)) ∨ (¬ npc ys.length ≤ 50 - a ∧ e = .returned (.int .i64 11) ∧ w' = w)
theorem appJ (h : Jd S w0 w d s j g m a) (hm : m + 2 ≤ a) (v : Value) (ys : List Int) (hr : Rd .u8 w v ys) (hb : By ys) (hv : ∀ k, v.ownBlock = some k → ys ≠ [] → ¬ S k) (hV : ∀ i, (s.V i).length < 274877906000) :
    Calls Try.prog 13 #[.pointer (some ⟨j, 0, none⟩), v] w fun e w' => ApJ S w0 w d s j g m a ys e w' := by
  refine (append_any j g m a v ys w h.dk h.jb h.nj hr hb hv h.l5 h.a2 h.a5 (by have := h.g2; omega) (by have := h.m2; omega) hV).mono ?_
  rintro e w' (⟨h1, rfl, S', d1, j1, t1, n1⟩ | ⟨h1, rfl, rfl⟩)
  · have hp := npc_pos ys.length
    have := h.a5
    refine .inl ⟨h1, rfl, S', ⟨d1, h.be.trans (t1.below h.be.size (fun k e => ?_)), fun k hk => ?_, j1, fun e => ?_, h.j0, by have := h.a2; omega, by omega, by rw [jap_L]; exact h.l5, h.g1, h.g2, by omega⟩⟩
    · rcases e with e | e
      · exact h.s0 k e
      · rw [e]; exact h.j0
    · rcases n1 k hk with e | e
      · exact h.s0 k e
      · exact Nat.le_trans h.be.size e
    · rcases n1 j e with e | e
      · exact h.nj e
      · have := Bo.lt h.jb; omega
  · exact .inr ⟨h1, rfl, rfl⟩
/-- A journal begins over the same disk. -/
theorem Jd.again (h : Jd S w0 w d s j g m a) {g' : Nat} (hg1 : 1 ≤ g') (hg2 : g' ≤ 4294967295) (hj : Jb w' w.heap.size d g' 0 2) (hb : Below w.heap.size w w') : Jd S w0 w' d s w.heap.size g' 0 2 :=
  ⟨h.dk.below hb, h.be.trans (hb.mono h.be.size), h.s0, hj, fun e => by have := h.dk.slt _ e; omega, h.be.size, by omega, by omega, h.l5, hg1, hg2, by omega⟩
end
theorem jd_new {S : Nat → Prop} {w0 w w' : World} {d : Nat} {s : DS} (h : Dk S w d s) (be : Below w0.heap.size w0 w) (s0 : ∀ k, S k → w0.heap.size ≤ k) (l5 : 50 ≤ s.L.length) {g : Nat} (hg1 : 1 ≤ g) (hg2 : g ≤ 4294967295) (hj : Jb w' w.heap.size d g 0 2) (hb : Below w.heap.size w w') : Jd S w0 w' d s w.heap.size g 0 2 :=
  ⟨h.below hb, be.trans (hb.mono be.size), s0, hj, fun e => by have := h.slt _ e; omega, be.size, by omega, by omega, l5, hg1, hg2, by omega⟩
theorem new_V (n i : Nat) : (DS.new n).V i = [] := rfl
theorem new_has {n i : Nat} (h : i < n) : (DS.new n).has i = zz := by
  unfold DS.has DS.new
  simp [List.getD_eq_getElem?_getD, h]
end Go.Proofs.Ytaacidgihhcpkaa
