/-
  The journal's small functions, and New.
-/
import Derived.Test.YtaacidgihhcpkaaJMem
import Derived.Test.YtaacidgihhcpkaaDDk
namespace Go.Proofs.Ytaacidgihhcpkaa
open Go.RowKit Go.Maps Pl
set_option linter.unusedVariables false
set_option linter.unusedSimpArgs false
set_option maxRecDepth 100000

theorem hasRoom_any {S : Nat → Prop} {d : Nat} {s : DS} (w : World) (h : Dk S w d s) (h50 : 50 ≤ s.L.length) :
    Calls Try.prog 33 #[dp d] w fun e w' => e = .returned (.bool true) ∧ w' = w := by
  have HS := hideP (size_any w h)
  obtain ⟨n, hn⟩ : ∃ n, Hid (s.L.length = n) := ⟨_, rfl⟩
  rw [hn.out] at HS h50
  have h50' : (50 : Int) ≤ (n : Int) := by omega
  clear h
  unfold dp at HS ⊢
  go_enter Try.func33, Try.ntmps33
  go_wp2_with fail
  refine HS.out.mono ?_
  rintro e w' ⟨rfl, rfl⟩
  go_wp2_with fail
  go_ret
  exact ⟨rfl, rfl⟩

def okG (z : Int) : Bool := decide (1 ≤ z) && decide (z ≤ 4294967295)
theorem okG_iff {z : Int} : okG z = true ↔ 1 ≤ z ∧ z ≤ 4294967295 := by simp [okG]
theorem mayBeGen_any (z : Int) (w : World) : Calls Try.prog 34 #[.int .i64 z] w fun e w' => e = .returned (.bool (okG z)) ∧ w' = w := by
  unfold okG
  by_cases h1 : 1 ≤ z
  · by_cases h2 : z ≤ 4294967295
    · go_enter Try.func34, Try.ntmps34
      go_wp2_with fail
      go_ret
      exact ⟨by simp [h1, h2], rfl⟩
    · go_enter Try.func34, Try.ntmps34
      go_wp2_with fail
      go_ret
      exact ⟨by simp [h1, h2], rfl⟩
  · go_enter Try.func34, Try.ntmps34
    go_wp2_with fail
    go_ret
    exact ⟨by rw [decide_eq_false (show ¬ 1 ≤ z by omega)]; rfl, rfl⟩

/-- How many pieces. -/
def npc (l : Nat) : Nat := if l = 0 then 1 else (l - 1) / 232 + 1
theorem npc_pos (l : Nat) : 1 ≤ npc l := by unfold npc; split <;> omega
theorem npc_int {l : Nat} (h : 0 < l) : ((l : Int) - 1).tdiv 232 + 1 = (npc l : Int) := by
  unfold npc
  rw [if_neg (by omega), Int.tdiv_eq_ediv_of_nonneg (by omega)]
  omega
theorem piecesOf_any (l : Nat) (w : World) (hl : l ≤ maxLen) : Calls Try.prog 35 #[.int .i64 (l : Int)] w fun e w' => e = .returned (.int .i64 (npc l : Int)) ∧ w' = w := by
  have hl63 : l ≤ 9223372036854775807 := by unfold maxLen at hl; omega
  clear hl
  by_cases h0 : l = 0
  · subst h0
    go_enter Try.func35, Try.ntmps35
    go_wp2_with fail
    go_ret
    exact ⟨rfl, rfl⟩
  · have hb : ((l : Int) == 0) = false := by simp; omega
    have HE := hideP (npc_int (l := l) (by omega))
    have hlp : 0 < l := by omega
    have hd1 : 0 ≤ ((l : Int) - 1).tdiv 232 := by rw [Int.tdiv_eq_ediv_of_nonneg (by omega)]; omega
    have hd2 : ((l : Int) - 1).tdiv 232 < 9223372036854775806 := by rw [Int.tdiv_eq_ediv_of_nonneg (by omega)]; omega
    go_enter Try.func35, Try.ntmps35
    go_wp2_with fail
    go_ret
    refine ⟨?_, rfl⟩
    rw [← HE.out]
    rfl

theorem room_any (j d g m a : Nat) (w : World) (h : Jb w j d g m a) (ha : a ≤ 50) : Calls Try.prog 27 #[.pointer (some ⟨j, 0, none⟩)] w fun e w' => e = .returned (.int .i64 ((50 - a : Nat) : Int)) ∧ w' = w := by
  have c3 := h.cell (i := 3) rfl
  clear h
  go_enter Try.func27, Try.ntmps27
  go_wp2_with fail
  go_ret
  refine ⟨?_, rfl⟩
  have e : ((50 - a : Nat) : Int) = 50 - (a : Int) := by omega
  rw [e]
  rfl
theorem many_any (j d g m a : Nat) (w : World) (h : Jb w j d g m a) : Calls Try.prog 28 #[.pointer (some ⟨j, 0, none⟩)] w fun e w' => e = .returned (.int .i64 (m : Int)) ∧ w' = w := by
  have c2 := h.cell (i := 2) rfl
  clear h
  go_enter Try.func28, Try.ntmps28
  go_wp2_with fail
  go_ret
  exact ⟨rfl, rfl⟩

/-- What New tells. -/
def NewR (d : Nat) (z : Int) (w : World) (e : Ending) (w' : World) : Prop :=
  (okG z = true ∧ e = .returned (.tuple #[.pointer (some ⟨w.heap.size, 0, none⟩), .int .i64 0]) ∧ Jb w' w.heap.size d z.toNat 0 2 ∧ Below w.heap.size w w' ∧ w'.heap.size = w.heap.size + 1) ∨
  (okG z = false ∧ e = .returned (.tuple #[.pointer none, .int .i64 1]) ∧ w' = w)
theorem newJ_any {S : Nat → Prop} {d : Nat} {s : DS} (z : Int) (w : World) (h : Dk S w d s) (h50 : 50 ≤ s.L.length) :
    Calls Try.prog 10 #[dp d, .int .i64 z] w fun e w' => NewR d z w e w' := by
  have HR := hideP (hasRoom_any w h h50)
  have HG := hideP (mayBeGen_any z w)
  obtain ⟨hv, hi⟩ := zero_of_info inf_jz
  clear h h50
  cases hz : okG z with
  | true =>
    rw [hz] at HG
    have HZ : Hid (okG z = true) := hz
    have HZI : Hid ((z.toNat : Int) = z) := by have := okG_iff.1 hz; show _ = _; omega
    clear hz
    unfold dp at HR ⊢
    go_enter Try.func10, Try.ntmps10
    go_wp2_with fail
    refine HR.out.mono ?_
    rintro e w' ⟨rfl, rfl⟩
    go_wp2_with fail
    refine HG.out.mono ?_
    rintro e w'' ⟨rfl, rfl⟩
    go_wp2_with fail
    go_ret2
    refine .inl ⟨HZ.out, rfl, ?_, (Below.refl _ _).alloc (Nat.le_refl _) _, by simp⟩
    unfold Jb
    rw [HZI.out]
    exact bo_new w'' _ _
  | false =>
    rw [hz] at HG
    have HZ : Hid (okG z = false) := hz
    clear hz
    unfold dp at HR ⊢
    go_enter Try.func10, Try.ntmps10
    go_wp2_with fail
    refine HR.out.mono ?_
    rintro e w' ⟨rfl, rfl⟩
    go_wp2_with fail
    refine HG.out.mono ?_
    rintro e w'' ⟨rfl, rfl⟩
    go_wp2_with fail
    go_ret2
    exact .inr ⟨HZ.out, rfl, rfl⟩
end Go.Proofs.Ytaacidgihhcpkaa
