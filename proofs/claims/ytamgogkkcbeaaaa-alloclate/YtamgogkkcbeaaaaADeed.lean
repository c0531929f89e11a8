/-
  Deeds of layer 12 in memory.
-/
import Derived.Test.YtamgogkkcbeaaaaRow0
import Derived.Deep.SlicePairs
import Derived.WalkKit
import Derived.ProofKit
import Derived.OpenShut
import Derived.ChangeOld
namespace Go.Proofs.Ytamgogkkcbeaaaa
open Go.RowKit Go.ChangeShapes Go.WideShapes
set_option linter.unusedVariables false

/-- The slice v reads as the deeds xs (a kind, a number). -/
def RdA (w : World) (v : Value) (xs : List (Int × Int)) : Prop :=
  ∃ a cap, v = .slice a xs.length cap ∧ xs.length ≤ cap ∧ cap ≤ maxLen ∧ (xs = [] ∨ ∃ b o, a = some ⟨b, o, none⟩ ∧ ∀ i x, xs[i]? = some x → w.cell? ⟨b, o + i * 2, none⟩ = some (.int .i64 x.1) ∧ w.cell? ⟨b, o + i * 2 + 1, none⟩ = some (.int .i64 x.2) ∧ (Lit.int .i64 x.1).wf = true ∧ (Lit.int .i64 x.2).wf = true)

theorem RdA.at_ {w wr : World} {a : Option Addr} {n cap : Nat} {xs : List (Int × Int)} (h : RdA w (.slice a n cap) xs) (hb : Below w.heap.size w wr) {k : Nat} {x : Int × Int} (hk : xs[k]? = some x) :
    ∃ b o, a = some ⟨b, o, none⟩ ∧ wr.cell? ⟨b, o + k * 2, none⟩ = some (.int .i64 x.1) ∧ wr.cell? ⟨b, o + k * 2 + 1, none⟩ = some (.int .i64 x.2) ∧ (Lit.int .i64 x.1).wf = true ∧ (Lit.int .i64 x.2).wf = true := by
  obtain ⟨a', cap', e, _, _, hc⟩ := h
  cases e
  rcases hc with e | ⟨b, o, rfl, hc⟩
  · rw [e] at hk; simp at hk
  · obtain ⟨c0, c1, w1, w2⟩ := hc k x hk
    have ht := Tch.of_below (S := fun _ => False) hb
    have hl := World.block_lt_of_cell? w ⟨b, o + k * 2, none⟩ c0
    exact ⟨b, o, rfl, by rw [ht.cell (p := ⟨b, o + k * 2, none⟩) hl (fun e => e)]; exact c0, by rw [ht.cell (p := ⟨b, o + k * 2 + 1, none⟩) hl (fun e => e)]; exact c1, w1, w2⟩

theorem len2D {α : Type} {l : List α} (h : l.length = 2) : ∃ a b, l = [a, b] := by
  match l, h with
  | [a, b], _ => exact ⟨a, b, rfl⟩

section
variable {H : Type} {enc : TypeId × Value → H} {W : World} {base : Nat} {spare : Nat → Bool} {held : Bool}

theorem one_adeed {fuel : Nat} {cs : List Value} {x : DataW H × List MemPlace} (h : DataW.trod enc Try.prog W base spare held fuel 33 cs = some x) :
    ∃ d : Int × Int, cs = [.int .i64 d.1, .int .i64 d.2] ∧ (Lit.int .i64 d.1).wf = true ∧ (Lit.int .i64 d.2).wf = true := by
  obtain ⟨xs, n, _, hx, hl, hxl, hf⟩ := DataW.trod_struct Try.underlying33 h
  have hl6 : cs.length = 2 := by rw [hl]; kernel_rfl
  have hx6 : xs.length = 2 := by rw [hxl]; rfl
  clear hl hxl
  obtain ⟨y0, y1, rfl⟩ := len2D hx6
  obtain ⟨v0, v1, rfl⟩ := len2D hl6
  have k1 : Try.prog.cellsOf 3 = 1 := by kernel_rfl
  have g0 : DataW.trod enc Try.prog W base spare held n 3 (([v0, v1].drop 0).take (Try.prog.cellsOf 3)) = some y0 := hf 0 _ rfl
  have g1 : DataW.trod enc Try.prog W base spare held n 3 (([v0, v1].drop 1).take (Try.prog.cellsOf 3)) = some y1 := hf 1 _ rfl
  rw [k1] at g0 g1
  obtain ⟨n0, e0, _, w0⟩ := DataW.trod_int Try.underlying3 g0
  obtain ⟨n1, e1, _, w1⟩ := DataW.trod_int Try.underlying3 g1
  cases e0
  cases e1
  exact ⟨(n0, n1), rfl, w0, w1⟩

theorem adeeds_open {fuel : Nat} {cs : List Value} {x : DataW H × List MemPlace} (h : DataW.trod enc Try.prog W base spare held fuel 22 cs = some x) :
    (cs = [.slice none 0 0] ∧ x.1 = .nil) ∨ ∃ (a : Addr) (len cap : Nat) (ps : List (Int × Int)) (es fs : List (DataW H)), cs = [.slice (some a) len cap] ∧ ps.length = len ∧ RdA W (.slice (some a) len cap) ps ∧ x.1 = .slice es fs ∧ es.length = len := by
  rcases Go.Deep.open_slice Try.underlying22 h with ⟨h1, h2⟩ | ⟨a, len, cap, m, n, D, Pl, rfl, hb, hl, hm, hmm, rfl, hx⟩
  · exact .inl ⟨h1, by rw [h2]⟩
  · right
    have c4 : Try.prog.cellsOf 33 = 2 := by kernel_rfl
    have hlm : len ≤ m := by rw [hmm]; split <;> omega
    have each : ∀ i, i < len → ∃ d : Int × Int, W.cell? (a.add (i * 2)) = some (.int .i64 d.1) ∧ W.cell? (a.add (i * 2 + 1)) = some (.int .i64 d.2) ∧ (Lit.int .i64 d.1).wf = true ∧ (Lit.int .i64 d.2).wf = true := by
      intro i hi
      obtain ⟨cs', h1, h2⟩ := hx i (by omega)
      rw [c4] at h1
      obtain ⟨_, hlen, hcell⟩ := World.cells?_some h1
      obtain ⟨d, rfl, hok⟩ := one_adeed h2
      have e0 := hcell 0 (by omega)
      have e1 := hcell 1 (by omega)
      rw [Go.Deep.add_add] at e0 e1
      exact ⟨d, by simpa using e0, by simpa using e1, hok⟩
    have hinh : Inhabited (Int × Int) := ⟨(0, 0)⟩
    obtain ⟨f, hf⟩ := Go.Deep.choose_lt (α := Int × Int) each
    refine ⟨a, len, cap, (List.range len).map f, _, _, rfl, by simp, ?_, rfl, by simp⟩
    refine ⟨some a, cap, by simp, by simpa using hl, hm, ?_⟩
    by_cases h0 : len = 0
    · left; rw [h0]; rfl
    · right
      obtain ⟨b, off, spot⟩ := a
      have hspot : spot = none := by simpa [Addr.add] using World.cell?_spot (hf 0 (by omega)).1
      subst hspot
      refine ⟨b, off, rfl, fun i x hi => ?_⟩
      have hil : i < len := by have := (List.getElem?_eq_some_iff.1 hi).1; simpa using this
      have hg : x = f i := by simp [hil] at hi; exact hi.symm
      subst hg
      obtain ⟨c0, c1, hok⟩ := hf i hil
      rw [Addr.add_lit] at c0 c1
      exact ⟨c0, by rw [Nat.add_assoc]; exact c1, hok⟩
end
end Go.Proofs.Ytamgogkkcbeaaaa
