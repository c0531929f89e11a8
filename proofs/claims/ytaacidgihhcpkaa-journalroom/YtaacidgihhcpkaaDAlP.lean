/-
  Each deed of the program's disk, for whatever is asked.
-/
import Derived.Test.YtaacidgihhcpkaaDRot
import Derived.Test.YtaacidgihhcpkaaDWrite
import Derived.Test.YtaacidgihhcpkaaDRead
namespace Go.Proofs.Ytaacidgihhcpkaa
open Go.RowKit Go.Maps
set_option linter.unusedVariables false
set_option linter.unusedSimpArgs false
set_option maxRecDepth 100000

/-- What a Write answers, and leaves. -/
def wco (s : DS) (at_ : Int) (n : Nat) : Int := if at_ < 0 ∨ (s.L.length : Int) ≤ at_ then 2 else if n = 256 then 0 else 1
def wrr (s : DS) (at_ : Int) (xs : List Int) : DS := if at_ < 0 ∨ (s.L.length : Int) ≤ at_ then s else if xs.length = 256 then s.wr at_.toNat xs else s
/-- What a Rot answers, and leaves. -/
def rco (s : DS) (b : Int) : Int := if b < 0 ∨ 2048 * (s.L.length : Int) ≤ b then 2 else 0
def rtt (s : DS) (b : Int) : DS := if b < 0 ∨ 2048 * (s.L.length : Int) ≤ b then s else s.rot b.toNat
/-- What a Read answers. -/
def dco (s : DS) (at_ : Int) : Int := if at_ < 0 ∨ (s.L.length : Int) ≤ at_ then 2 else 0
def dhs (s : DS) (at_ : Int) : List Int := if at_ < 0 ∨ (s.L.length : Int) ≤ at_ then [] else s.has at_.toNat

section
variable {S : Nat → Prop} {d : Nat} {s : DS}
theorem write_all (at_ : Int) (v : Value) (xs : List Int) (w : World) (h : Dk S w d s) (hr : Rd .u8 w v xs) (hy : By xs) (hv : ∀ k, v.ownBlock = some k → ¬ S k) (hm : ∀ i, (s.V i).length < 274877906943) :
    Calls Try.prog 19 #[dp d, .int .i64 at_, v] w fun e w' => e = .returned (.int .i64 (wco s at_ xs.length)) ∧ DkTo S w w' d (wrr s at_ xs) := by
  unfold wco wrr
  by_cases hb : at_ < 0 ∨ (s.L.length : Int) ≤ at_
  · rw [if_pos hb, if_pos hb]
    obtain ⟨a, cap, rfl, _⟩ := hr
    refine (write_range at_ a _ cap w h hb).mono ?_
    rintro e w' ⟨rfl, rfl⟩
    exact ⟨rfl, h.to⟩
  · rw [if_neg hb, if_neg hb]
    obtain ⟨i, rfl⟩ : ∃ i : Nat, at_ = (i : Int) := ⟨at_.toNat, by omega⟩
    by_cases hx : xs.length = 256
    · rw [if_pos hx, if_pos hx]
      exact write_ok i v xs w h (by omega) hr hx hy hv (hm i)
    · rw [if_neg hx, if_neg hx]
      obtain ⟨a, cap, rfl, h1, h2, _⟩ := hr
      refine (write_len i a _ cap w h (by omega) hx (Nat.le_trans h1 h2)).mono ?_
      rintro e w' ⟨rfl, rfl⟩
      exact ⟨rfl, h.to⟩
theorem rot_all (b : Int) (w : World) (h : Dk S w d s) (hw : (Lit.int .i64 b).wf = true) :
    Calls Try.prog 22 #[dp d, .int .i64 b] w fun e w' => e = .returned (.int .i64 (rco s b)) ∧ DkTo S w w' d (rtt s b) := by
  unfold rco rtt
  by_cases hb : b < 0 ∨ 2048 * (s.L.length : Int) ≤ b
  · rw [if_pos hb, if_pos hb]
    refine (rot_bad b w h hw hb).mono ?_
    rintro e w' ⟨rfl, rfl⟩
    exact ⟨rfl, h.to⟩
  · rw [if_neg hb, if_neg hb]
    obtain ⟨i, rfl⟩ : ∃ i : Nat, b = (i : Int) := ⟨b.toNat, by omega⟩
    exact rot_ok i w h (by omega)
/-- Nothing, or bytes that may be written. -/
def Wz (w : World) (v : Value) (xs : List Int) : Prop := (v = .slice none 0 0 ∧ xs = []) ∨ Wb w v xs
theorem Wz.rd {w : World} {v : Value} {xs : List Int} (h : Wz w v xs) : Rd .u8 w v xs := by
  rcases h with ⟨rfl, rfl⟩ | h
  · exact (owns_nil .u8 5 w).rd
  · exact h.rd
theorem Wz.tch {R : Nat → Prop} {w w' : World} {v : Value} {xs : List Int} (h : Wz w v xs) (ht : Tch R w w') (hn : ∀ j, v.ownBlock = some j → ¬ R j) : Wz w' v xs := by
  rcases h with h | h
  · exact .inl h
  · exact .inr (h.tch ht hn)
theorem read_all (at_ : Int) (w : World) (h : Dk S w d s) :
    Calls Try.prog 54 #[dp d, .int .i64 at_] w fun e w' => ∃ v, e = .returned (.tuple #[v, .int .i64 (dco s at_)]) ∧ Wz w' v (dhs s at_) ∧ Below w.heap.size w w' ∧ ∀ k, v.ownBlock = some k → w.heap.size ≤ k := by
  unfold dco dhs
  by_cases hb : at_ < 0 ∨ (s.L.length : Int) ≤ at_
  · rw [if_pos hb, if_pos hb]
    refine (read_bad at_ w h hb).mono ?_
    rintro e w' ⟨rfl, rfl⟩
    exact ⟨_, rfl, .inl ⟨rfl, rfl⟩, Below.refl _ _, fun k hk => by cases hk⟩
  · rw [if_neg hb, if_neg hb]
    obtain ⟨i, rfl⟩ : ∃ i : Nat, at_ = (i : Int) := ⟨at_.toNat, by omega⟩
    refine (read_ok i w h (by omega)).mono ?_
    rintro e w' ⟨v, rfl, h1, h2, h3⟩
    exact ⟨v, rfl, .inr h1, h2, h3⟩
end

end Go.Proofs.Ytaacidgihhcpkaa
