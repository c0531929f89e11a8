import Derived.Test.YtaacidgihhcpkaaRX05
import Derived.Test.YtaacidgihhcpkaaRX06
import Derived.Test.YtaacidgihhcpkaaRX03
import Derived.Deep.Slices
import Derived.ChangeSame
import Derived.SizedLaws
/-
  A slice of rows of bytes, and of deeds of layer 11, that came in can be read.
-/
namespace Go.Proofs.Ytaacidgihhcpkaa
open Go.RowKit Pl Go.ChangeShapes Go.WideShapes
set_option linter.unusedVariables false

section
variable {H : Type} {enc : TypeId × Value → H} {W : World} {base : Nat} {spare : Nat → Bool} {held : Bool}

theorem one_row {fuel : Nat} {cs : List Value} {x : DataW H × List MemPlace} (h : DataW.trod enc Try.prog W base spare held fuel 36 cs = some x) :
    ∃ (u : Value) (ys : List Int), cs = [u] ∧ Rd .u8 W u ys ∧ By ys ∧ (ys = [] ∨ ∃ es fs, x.1 = .slice es fs ∧ ys.length ≤ es.length + fs.length) := by
  rcases open_ints Try.underlying36 Try.underlying5 (by kernel_rfl) h with ⟨hcs, _⟩ | ⟨a, l, c, zs, hcs, _, hl', hm, hz, hxx, hcell, hwz⟩
  · exact ⟨.slice none 0 0, [], hcs, ⟨none, 0, rfl, Nat.le_refl _, by unfold maxLen; omega, fun _ => rfl, .inl rfl⟩, by_of_memB (by simp), .inl rfl⟩
  · have hlz : l ≤ zs.length := by rw [hz]; split <;> omega
    have e : (zs.take l).length = l := by rw [List.length_take]; omega
    refine ⟨.slice (some a) l c, zs.take l, hcs, ⟨some a, c, by rw [e], by rw [e]; exact hl', hm, (fun e => by cases e), ?_⟩, by_of_wf (fun n hn => hwz n (List.mem_of_mem_take hn)), .inr ⟨lits .u8 (zs.take l), lits .u8 (zs.drop l), by rw [hxx], ?_⟩⟩
    · by_cases h0 : l = 0
      · left; rw [h0]; rfl
      · right
        obtain ⟨b, off, spot⟩ := a
        have hc := hcell 0 (by omega)
        have hspot : spot = none := by simpa [Addr.add] using World.cell?_spot hc
        subst hspot
        refine ⟨b, off, rfl, fun i hi0 => ?_⟩
        have hi : i < l := by have h2 : i < (zs.take l).length := hi0; rw [e] at h2; exact h2
        have := hcell i (by omega)
        rw [Addr.add_lit] at this
        rw [this, List.getD_eq_getElem?_getD, List.getD_eq_getElem?_getD, List.getElem?_take, if_pos (by omega)]
    · simp only [lits, List.length_map]; omega

theorem weights_all_mem {P : Program} {e : TypeId} : ∀ {l : List (DataW H)} {d : DataW H}, d ∈ l → ∀ n ∈ d.weights P e, n ∈ DataW.weightsAll P e l
  | d0 :: l, d, hd, n, hn => by
    simp only [DataW.weightsAll, List.mem_append]
    rcases List.mem_cons.1 hd with e | e
    · subst e; exact .inl hn
    · exact .inr (weights_all_mem e n hn)

theorem rows_open {fuel : Nat} {cs : List Value} {x : DataW H × List MemPlace} (h : DataW.trod enc Try.prog W base spare held fuel 46 cs = some x) :
    (cs = [.slice none 0 0] ∧ x.1 = .nil) ∨ ∃ (a : Addr) (len cap : Nat) (ps : List (List Int)) (es fs : List (DataW H)), cs = [.slice (some a) len cap] ∧ ps.length = len ∧ RdL W (.slice (some a) len cap) ps ∧ (∀ y ∈ ps, By y) ∧ x.1 = .slice es fs ∧ es.length = len ∧
      ((∀ n ∈ x.1.weights Try.prog 46, n ≤ reachBytes) → ∀ y ∈ ps, y.length ≤ reachBytes) := by
  rcases Go.Deep.open_slice Try.underlying46 h with ⟨h1, h2⟩ | ⟨a, len, cap, m, n, D, Pl, rfl, hb, hl, hm, hmm, rfl, hx⟩
  · exact .inl ⟨h1, by rw [h2]⟩
  · right
    have c1 : Try.prog.cellsOf 36 = 1 := by kernel_rfl
    have hlm : len ≤ m := by rw [hmm]; split <;> omega
    have each : ∀ i, i < len → ∃ p : Value × List Int, W.cell? (a.add i) = some p.1 ∧ Rd .u8 W p.1 p.2 ∧ By p.2 ∧ (p.2 = [] ∨ ∃ es fs, D i = .slice es fs ∧ p.2.length ≤ es.length + fs.length) := by
      intro i hi
      obtain ⟨cs', h1, h2⟩ := hx i (by omega)
      rw [c1] at h1
      obtain ⟨_, hlen, hcell⟩ := World.cells?_some h1
      obtain ⟨u, ys, rfl, r1, r2, r3⟩ := one_row h2
      have e0 := hcell 0 (by omega)
      rw [Go.Deep.add_add] at e0
      exact ⟨(u, ys), by simpa using e0, r1, r2, r3⟩
    have hinh : Inhabited (Value × List Int) := ⟨(.slice none 0 0, [])⟩
    obtain ⟨f, hf⟩ := Go.Deep.choose_lt (α := Value × List Int) each
    refine ⟨a, len, cap, (List.range len).map fun i => (f i).2, _, _, rfl, by simp, ?_, ?_, rfl, by simp, ?_⟩
    · refine ⟨some a, cap, by simp, by simpa using hl, hm, ?_⟩
      by_cases h0 : len = 0
      · left; rw [h0]; rfl
      · right
        obtain ⟨b, off, spot⟩ := a
        have hspot : spot = none := by simpa [Addr.add] using World.cell?_spot (hf 0 (by omega)).1
        subst hspot
        refine ⟨b, off, rfl, fun i hi => ?_⟩
        have hil : i < len := by simpa using hi
        obtain ⟨c0, r1, r2, r3⟩ := hf i hil
        rw [Addr.add_lit] at c0
        refine ⟨(f i).1, c0, ?_⟩
        rw [List.getD_eq_getElem?_getD, List.getElem?_map, List.getElem?_range hil]
        exact r1
    · intro y hy
      obtain ⟨i, hi, rfl⟩ := List.mem_map.1 hy
      exact (hf i (by simpa using hi)).2.2.1
    · intro hw y hy
      obtain ⟨i, hi, rfl⟩ := List.mem_map.1 hy
      have hil : i < len := by simpa using hi
      obtain ⟨_, _, _, r3⟩ := hf i hil
      rcases r3 with e | ⟨es, fs, e1, e2⟩
      · rw [e]; exact Nat.zero_le _
      · have hb1 : Try.prog.bytesOf 5 = 1 := by kernel_rfl
        have hmem : D i ∈ (List.range len).map D := List.mem_map.2 ⟨i, hi, rfl⟩
        have hw1 := weights_all_mem (P := Try.prog) (e := 36) hmem ((es.length + fs.length) * Try.prog.bytesOf 5) (by rw [e1]; simp [DataW.weights, Try.underlying36])
        have := hw ((es.length + fs.length) * Try.prog.bytesOf 5) (by simp only [DataW.weights, Try.underlying46, List.mem_cons, List.mem_append]; exact .inr (.inl hw1))
        rw [hb1] at this
        omega
end
end Go.Proofs.Ytaacidgihhcpkaa
