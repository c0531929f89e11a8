/-
  Each deed, of both, for whatever is asked.
-/
import Derived.Test.YtmohbkhdloggeaaRPower
import Derived.Test.YtmohbkhdloggeaaRRot2
import Derived.Test.YtmohbkhdloggeaaRNew
import Derived.Test.YtmohbkhdloggeaaDArg
import Derived.Test.YtmohbkhdloggeaaSame
namespace Go.Proofs.Ytmohbkhdloggeaa
open Go.RowKit Go.Maps
set_option linter.unusedVariables false
set_option linter.unusedSimpArgs false
set_option maxRecDepth 100000

/-- What a Write answers, and leaves. -/
def wco (s : DS) (at_ : Int) (n : Nat) : Int := if at_ < 0 ∨ (s.L.length : Int) ≤ at_ then 2 else if n = 256 then 0 else 1
def wrr (s : DS) (at_ : Int) (xs : List Int) : DS := if at_ < 0 ∨ (s.L.length : Int) ≤ at_ then s else if xs.length = 256 then s.wr at_.toNat xs else s
/-- What a Rot answers, and leaves. -/
def rco (s : DS) (b : Int) : Int := if b < 0 ∨ 2048 * (s.L.length : Int) ≤ b then 2 else 0
def rtt (s : DS) (b : Int) : DS := if b < 0 ∨ 2048 * (s.L.length : Int) ≤ b then s else s.rot b.toNat
/-- What a cut answers, and leaves. -/
def cco (n : Int) : Int := if n < 0 ∨ 1073741824 < n then 1 else 0
def ctt (s : DS) (n : Int) : DS := if n < 0 ∨ 1073741824 < n then s else s.ct n.toNat
/-- What a Read answers. -/
def dco (s : DS) (at_ : Int) : Int := if at_ < 0 ∨ (s.L.length : Int) ≤ at_ then 2 else 0
def dhs (s : DS) (at_ : Int) : List Int := if at_ < 0 ∨ (s.L.length : Int) ≤ at_ then [] else s.has at_.toNat

section
variable {S : Nat → Prop} {d : Nat} {s : DS}
theorem write_all (at_ : Int) (v : Value) (xs : List Int) (w : World) (h : Dk S w d s) (hr : Rd .u8 w v xs) (hy : By xs) (hv : ∀ k, v.ownBlock = some k → ¬ S k) (hm : ∀ i, (s.V i).length < 274877906943) :
    Calls Try.prog 17 #[dp d, .int .i64 at_, v] w fun e w' => e = .returned (.int .i64 (wco s at_ xs.length)) ∧ DkTo S w w' d (wrr s at_ xs) := by
  unfold wco wrr
  by_cases hb : at_ < 0 ∨ (s.L.length : Int) ≤ at_
  · rw [if_pos hb, if_pos hb]
    obtain ⟨a, cap, rfl, _⟩ := hr
    refine (write_range at_ a _ cap w h hb).mono ?_
    rintro e w' ⟨rfl, rfl⟩
    exact ⟨rfl, h.to⟩
  · rw [if_neg hb, if_neg hb]
    obtain ⟨i, rfl⟩ : ∃ i : Nat, at_ = (i : Int) := ⟨at_.toNat, by omega⟩
    by_cases hx : xs.length = 256
    · rw [if_pos hx, if_pos hx]
      exact write_ok i v xs w h (by omega) hr hx hy hv (hm i)
    · rw [if_neg hx, if_neg hx]
      obtain ⟨a, cap, rfl, h1, h2, _⟩ := hr
      refine (write_len i a _ cap w h (by omega) hx (Nat.le_trans h1 h2)).mono ?_
      rintro e w' ⟨rfl, rfl⟩
      exact ⟨rfl, h.to⟩
theorem rot_all (b : Int) (w : World) (h : Dk S w d s) (hw : (Lit.int .i64 b).wf = true) :
    Calls Try.prog 26 #[dp d, .int .i64 b] w fun e w' => e = .returned (.int .i64 (rco s b)) ∧ DkTo S w w' d (rtt s b) := by
  unfold rco rtt
  by_cases hb : b < 0 ∨ 2048 * (s.L.length : Int) ≤ b
  · rw [if_pos hb, if_pos hb]
    refine (rot_bad b w h hw hb).mono ?_
    rintro e w' ⟨rfl, rfl⟩
    exact ⟨rfl, h.to⟩
  · rw [if_neg hb, if_neg hb]
    obtain ⟨i, rfl⟩ : ∃ i : Nat, b = (i : Int) := ⟨b.toNat, by omega⟩
    exact rot_ok i w h (by omega)
theorem cut_all (n : Int) (w : World) (h : Dk S w d s) :
    Calls Try.prog 27 #[dp d, .int .i64 n] w fun e w' => e = .returned (.int .i64 (cco n)) ∧ DkTo S w w' d (ctt s n) := by
  unfold cco ctt
  by_cases hb : n < 0 ∨ 1073741824 < n
  · rw [if_pos hb, if_pos hb]
    refine (cut_bad (S := S) (s := s) n w hb).mono ?_
    rintro e w' ⟨rfl, rfl⟩
    exact ⟨rfl, h.to⟩
  · rw [if_neg hb, if_neg hb]
    obtain ⟨i, rfl⟩ : ∃ i : Nat, n = (i : Int) := ⟨n.toNat, by omega⟩
    exact cut_ok i w h (by omega)
/-- Nothing, or bytes that may be written. -/
def Wz (w : World) (v : Value) (xs : List Int) : Prop := (v = .slice none 0 0 ∧ xs = []) ∨ Wb w v xs
theorem Wz.rd {w : World} {v : Value} {xs : List Int} (h : Wz w v xs) : Rd .u8 w v xs := by
  rcases h with ⟨rfl, rfl⟩ | h
  · exact (owns_nil .u8 5 w).rd
  · exact h.rd
theorem Wz.tch {R : Nat → Prop} {w w' : World} {v : Value} {xs : List Int} (h : Wz w v xs) (ht : Tch R w w') (hn : ∀ j, v.ownBlock = some j → ¬ R j) : Wz w' v xs := by
  rcases h with h | h
  · exact .inl h
  · exact .inr (h.tch ht hn)
theorem read_all (at_ : Int) (w : World) (h : Dk S w d s) :
    Calls Try.prog 21 #[dp d, .int .i64 at_] w fun e w' => ∃ v, e = .returned (.tuple #[v, .int .i64 (dco s at_)]) ∧ Wz w' v (dhs s at_) ∧ Below w.heap.size w w' ∧ ∀ k, v.ownBlock = some k → w.heap.size ≤ k := by
  unfold dco dhs
  by_cases hb : at_ < 0 ∨ (s.L.length : Int) ≤ at_
  · rw [if_pos hb, if_pos hb]
    refine (read_bad at_ w h hb).mono ?_
    rintro e w' ⟨rfl, rfl⟩
    exact ⟨_, rfl, .inl ⟨rfl, rfl⟩, Below.refl _ _, fun k hk => by cases hk⟩
  · rw [if_neg hb, if_neg hb]
    obtain ⟨i, rfl⟩ : ∃ i : Nat, at_ = (i : Int) := ⟨at_.toNat, by omega⟩
    refine (read_ok i w h (by omega)).mono ?_
    rintro e w' ⟨v, rfl, h1, h2, h3⟩
    exact ⟨v, rfl, .inr h1, h2, h3⟩
end

section
variable {R : Nat → Prop} {r : Nat} {s : DS}
theorem refWrite_all (at_ : Int) (v : Value) (xs : List Int) (w : World) (h : Rf R w r s) (hr : Rd .u8 w v xs) (hy : By xs) (hv : ∀ k, v.ownBlock = some k → ¬ R k) (hm : ∀ i, (s.V i).length < 274877906943) :
    Calls Try.prog 29 #[dp r, .int .i64 at_, v] w fun e w' => e = .returned (.int .i64 (wco s at_ xs.length)) ∧ RfTo R w w' r (wrr s at_ xs) := by
  unfold wco wrr
  by_cases hb : at_ < 0 ∨ (s.L.length : Int) ≤ at_
  · rw [if_pos hb, if_pos hb]
    obtain ⟨a, cap, rfl, _⟩ := hr
    refine (refWrite_range at_ a _ cap w h hb).mono ?_
    rintro e w' ⟨rfl, rfl⟩
    exact ⟨rfl, h.to⟩
  · rw [if_neg hb, if_neg hb]
    obtain ⟨i, rfl⟩ : ∃ i : Nat, at_ = (i : Int) := ⟨at_.toNat, by omega⟩
    by_cases hx : xs.length = 256
    · rw [if_pos hx, if_pos hx]
      exact refWrite_ok i v xs w h (by omega) hr hx hy hv (by have := hm i; omega)
    · rw [if_neg hx, if_neg hx]
      obtain ⟨a, cap, rfl, h1, h2, _⟩ := hr
      refine (refWrite_len i a _ cap w h (by omega) hx (Nat.le_trans h1 h2)).mono ?_
      rintro e w' ⟨rfl, rfl⟩
      exact ⟨rfl, h.to⟩
theorem refRot_all (b : Int) (w : World) (h : Rf R w r s) (hV : ∀ i, (s.V i).length < 274877906944) :
    Calls Try.prog 32 #[dp r, .int .i64 b] w fun e w' => e = .returned (.int .i64 (rco s b)) ∧ RfTo R w w' r (rtt s b) := by
  unfold rco rtt
  by_cases hb : b < 0 ∨ 2048 * (s.L.length : Int) ≤ b
  · rw [if_pos hb, if_pos hb]
    refine (refRot_bad b w h hb).mono ?_
    rintro e w' ⟨rfl, rfl⟩
    exact ⟨rfl, h.to⟩
  · rw [if_neg hb, if_neg hb]
    obtain ⟨i, rfl⟩ : ∃ i : Nat, b = (i : Int) := ⟨b.toNat, by omega⟩
    exact refRot_ok i w h (by omega) hV
theorem cuts_all (n : Int) (w : World) (h : Rf R w r s) :
    Calls Try.prog 33 #[dp r, .int .i64 n] w fun e w' => e = .returned (.int .i64 (cco n)) ∧ RfTo R w w' r (ctt s n) := by
  unfold cco ctt
  by_cases hb : n < 0 ∨ 1073741824 < n
  · rw [if_pos hb, if_pos hb]
    refine (cuts_bad n w hb).mono ?_
    rintro e w' ⟨rfl, rfl⟩
    exact ⟨rfl, h.to⟩
  · rw [if_neg hb, if_neg hb]
    obtain ⟨i, rfl⟩ : ∃ i : Nat, n = (i : Int) := ⟨n.toNat, by omega⟩
    exact cuts_ok i w h (by omega)
theorem refRead_all (at_ : Int) (w : World) (h : Rf R w r s) :
    Calls Try.prog 34 #[dp r, .int .i64 at_] w fun e w' => ∃ v, e = .returned (.tuple #[v, .int .i64 (dco s at_)]) ∧ Owns .u8 5 w' v (dhs s at_) ∧ Below w.heap.size w w' ∧ ∀ k, v.ownBlock = some k → w.heap.size ≤ k := by
  unfold dco dhs
  by_cases hb : at_ < 0 ∨ (s.L.length : Int) ≤ at_
  · rw [if_pos hb, if_pos hb]
    refine (refRead_bad at_ w h hb).mono ?_
    rintro e w' ⟨rfl, rfl⟩
    exact ⟨_, rfl, owns_nil _ _ _, Below.refl _ _, fun k hk => by cases hk⟩
  · rw [if_neg hb, if_neg hb]
    obtain ⟨i, rfl⟩ : ∃ i : Nat, at_ = (i : Int) := ⟨at_.toNat, by omega⟩
    refine (refRead_ok i w h (by omega)).mono ?_
    rintro e w' ⟨v, rfl, h1, h2, h3⟩
    exact ⟨v, rfl, h1, h2, h3⟩
end

/-- Rows that are the same are the same. -/
theorem same_all (u v : Value) (xs : List Int) (w : World) (hu : Rd .u8 w u xs) (hv : Rd .u8 w v xs) : Calls Try.prog 23 #[u, v] w fun e w' => e = .returned (.bool true) ∧ Below w.heap.size w w' := by
  obtain ⟨a, ca, rfl, ha1, ha2, _, ha⟩ := hu
  obtain ⟨b, cb, rfl, hb1, hb2, _, hb⟩ := hv
  have h63 : xs.length ≤ 9223372036854775807 := by unfold maxLen at ha2; omega
  by_cases h0 : xs = []
  · subst h0
    simp only [List.length_nil]
    clear ha hb ha1 hb1 ha2 hb2 h63
    go_enter Try.func23, Try.ntmps23
    go_wp2
    go_loopw [5] (fun i wr => i = .int .i64 0 ∧ Below w.heap.size w wr) (fun _ _ => 0)
    case atStart => exact ⟨rfl, Below.refl _ _⟩
    case round =>
      obtain ⟨rfl, hB⟩ := hrel
      go_wp2
      go_ret
      exact ⟨rfl, hB⟩
  · rcases ha with e | ⟨ab, ao, rfl, ha⟩
    · exact absurd e h0
    rcases hb with e | ⟨bb, bo, rfl, hb⟩
    · exact absurd e h0
    have := same_any ab bb ao bo ca cb xs xs w rfl h63 ha hb
    simpa using this

/-- Both disks, side by side. -/
structure Bt (S R : Nat → Prop) (w0 w : World) (d r : Nat) (s t : DS) : Prop where
  dk : Dk S w d s
  rf : Rf R w r t
  ap : ∀ k, S k → ¬ R k
  be : Below w0.heap.size w0 w
  s0 : ∀ k, S k → w0.heap.size ≤ k
  r0 : ∀ k, R k → w0.heap.size ≤ k

section
variable {S R : Nat → Prop} {w0 w w' : World} {d r : Nat} {s t : DS}
theorem Bt.tch (h : Bt S R w0 w d r s t) {T : Nat → Prop} (ht : Tch T w w') (hS : ∀ k, T k → ¬ S k ∧ ¬ R k ∧ w0.heap.size ≤ k) : Bt S R w0 w' d r s t :=
  ⟨h.dk.tch ht (fun k hk e => (hS k e).1 hk), h.rf.tch ht (fun k hk e => (hS k e).2.1 hk), h.ap, h.be.trans (ht.below h.be.size (fun k e => (hS k e).2.2)), h.s0, h.r0⟩
theorem Bt.below (h : Bt S R w0 w d r s t) (hb : Below w.heap.size w w') : Bt S R w0 w' d r s t := h.tch (T := fun _ => False) (Tch.of_below hb) (fun _ e => e.elim)
/-- The program's does something. -/
theorem Bt.dkTo (h : Bt S R w0 w d r s t) {s' : DS} (hd : DkTo S w w' d s') : ∃ S', Bt S' R w0 w' d r s' t ∧ Tch S w w' ∧ ∀ k, S' k → S k ∨ w.heap.size ≤ k := by
  obtain ⟨S', h1, h2, h3⟩ := hd
  refine ⟨S', ⟨h1, h.rf.tch h2 (fun k hk e => h.ap k e hk), fun k hk e => ?_, h.be.trans (h2.below h.be.size (fun k e => h.s0 k e)), fun k hk => ?_, h.r0⟩, h2, h3⟩
  · rcases h3 k hk with e2 | e2
    · exact h.ap k e2 e
    · have := h.rf.rlt k e; omega
  · rcases h3 k hk with e2 | e2
    · exact h.s0 k e2
    · exact Nat.le_trans h.be.size e2
/-- The document's does something. -/
theorem Bt.rfTo (h : Bt S R w0 w d r s t) {t' : DS} (hd : RfTo R w w' r t') : ∃ R', Bt S R' w0 w' d r s t' ∧ Tch R w w' ∧ ∀ k, R' k → R k ∨ w.heap.size ≤ k := by
  obtain ⟨R', h1, h2, h3⟩ := hd
  refine ⟨R', ⟨h.dk.tch h2 (fun k hk e => h.ap k hk e), h1, fun k hk e => ?_, h.be.trans (h2.below h.be.size (fun k e => h.r0 k e)), h.s0, fun k hk => ?_⟩, h2, h3⟩
  · rcases h3 k e with e2 | e2
    · exact h.ap k hk e2
    · have := h.dk.slt k hk; omega
  · rcases h3 k hk with e2 | e2
    · exact h.r0 k e2
    · exact Nat.le_trans h.be.size e2
end

/-- What a deed does. -/
def stp (s : DS) (x : Dd) : DS :=
  match pk x.kind 6 with
  | 0 => wrr s x.at_ (dby x)
  | 1 => s.fl
  | 2 => s.pw x.ps
  | 3 => rtt s x.at_
  | 5 => ctt s x.at_
  | _ => s
end Go.Proofs.Ytmohbkhdloggeaa
