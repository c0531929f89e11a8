/-
  A new disk; what a sector has.
-/
import Derived.Test.YtaacidgihhcpkaaDDk
namespace Go.Proofs.Ytaacidgihhcpkaa
open Go.RowKit Go.Maps
set_option linter.unusedVariables false
set_option linter.unusedSimpArgs false
set_option maxRecDepth 100000

/-- A new one. -/
def DS.new (n : Nat) : DS := ⟨List.replicate n zz, fun _ => [], false, 0⟩

theorem sok_new (n : Nat) : SOk (List.replicate n zz) := fun x hx => by
  rw [List.mem_replicate] at hx
  rw [hx.2]
  exact ⟨zz_len, zz_by⟩

theorem made_new (n : Nat) : (madeCells (bcs zz).toArray (n * 256)).toList = bcs (List.replicate n zz).flatten := by
  have hL := flat_len (sok_new n)
  rw [List.length_replicate] at hL
  apply List.ext_getElem?
  intro i
  by_cases hi : i < n * 256
  · have h0 : i % 256 < 256 := Nat.mod_lt _ (by decide)
    have h1 : i / 256 < n := by omega
    have e : (List.replicate n zz).flatten[i]? = some 0 := by
      have := flat_get (sok_new n) (i := i / 256) (by rw [List.length_replicate]; exact h1) h0
      rw [show i / 256 * 256 + i % 256 = i by omega] at this
      rw [this, List.getD_eq_getElem?_getD, List.getElem?_replicate, if_pos h1]
      exact zz_get h0
    have hz : (bcs zz)[i % 256]? = some (.int .u8 0) := by rw [bcs, List.getElem?_map, zz_get h0]; rfl
    have hr : (bcs (List.replicate n zz).flatten)[i]? = some (.int .u8 0) := by rw [bcs, List.getElem?_map, e]; rfl
    rw [hr]
    unfold madeCells
    simp only [Array.toList_map, List.getElem?_map, Array.toList_range]
    rw [List.getElem?_range hi]
    simp only [Option.map_some, List.size_toArray, bcs_len, zz_len]
    rw [getElem!_def, List.getElem?_toArray, hz]
  · rw [List.getElem?_eq_none (by rw [Array.length_toList, size_madeCells]; omega), List.getElem?_eq_none (by rw [bcs_len, hL]; omega)]

theorem new_bad (n : Int) (w : World) (h : n < 1 ∨ 4096 < n) : Calls Try.prog 8 #[.int .i64 n] w fun e w' => e = .returned (.tuple #[.pointer none, .int .i64 1]) ∧ w' = w := by
  by_cases h1 : n < 1
  · go_enter Try.func8, Try.ntmps8
    go_wp2_with fail
    go_ret2
    exact ⟨rfl, rfl⟩
  · have h2 : n > 4096 := by omega
    go_enter Try.func8, Try.ntmps8
    go_wp2_with fail
    go_ret2
    exact ⟨rfl, rfl⟩

theorem new_ok (n : Nat) (w : World) (h1 : 1 ≤ n) (h2 : n ≤ 4096) : Calls Try.prog 8 #[.int .i64 (n : Int)] w fun e w' =>
    ∃ d S, e = .returned (.tuple #[dp d, .int .i64 0]) ∧ Dk S w' d (DS.new n) ∧ Below w.heap.size w w' ∧ ∀ k, S k → w.heap.size ≤ k := by
  obtain ⟨j0, hj, hy0, hy1, hy2⟩ := info_parts info_sec
  have hmm := @run_makeMap Try.prog
  have ha : ¬ (n : Int) < 1 := by omega
  have hb : ¬ (n : Int) > 4096 := by omega
  go_enter Try.func8, Try.ntmps8
  go_wp2_with (at_make; refine wpList_make_full _ rfl (.tmp 10) (.tmp 10) 62 rfl 0 83 j0 _ 256 Try.underlying62 hj hy0 hy1 .i64 .i64 _ _ n rfl rfl rfl rfl (by rw [hy2]; omega) (by unfold maxLen; omega) (Nat.zero_le _) ?_)
  intro w1 ho hg
  rw [made_new] at ho
  have O1 : Hid (SecR w1 (.slice (some ⟨w.heap.size, 0, none⟩) n n) (List.replicate n zz)) := ⟨sok_new n, by rw [List.length_replicate]; exact ho⟩
  have B1 : Hid (Below w.heap.size w w1) := ⟨hg.os, hg.tape, hg.output, hg.size, fun k hk => hg.block k hk (by simp)⟩
  have hs : Hid (w.heap.size < w1.heap.size) := O1.out.lt _ rfl
  clear ho hg hj hy0 hy1 hy2
  go_wp2_with fail
  go_ret2
  have M1 : Mp (w1.alloc (.map #[] 0)) w1.heap.size n (fun _ => none) := mp_of (World.ownsMap_made w1 _ _ _) (by rw [dm_empty (fun _ _ => rfl)])
  refine ⟨w1.heap.size + 1, fun k => w.heap.size ≤ k ∧ k < w1.heap.size + 2, by first | rfl | simp, ⟨w.heap.size, w1.heap.size, n, fun _ => none, ?_⟩, ?_, fun k hk => hk.1⟩
  · have hsz : (w1.alloc (.map #[] 0)).heap.size = w1.heap.size + 1 := by simp
    have hbx : ∀ o, ((w1.alloc (.map #[] 0)).alloc o).heap[w1.heap.size + 1]? = some o := fun o => by rw [← hsz]; exact heap_alloc_new _ _
    exact {
      n1 := by simp [DS.new]; exact h1
      n2 := by simp [DS.new]; exact h2
      l30 := by simp [DS.new]
      box := by rw [hbx]; simp [DS.new]
      lies := by
        simp only [DS.new, List.length_replicate]
        exact (O1.out.below ((Below.refl _ _).alloc (Nat.le_refl _) _)).below ((Below.refl _ _).alloc (Nat.le_refl _) _)
      map := by
        simp only [DS.new, List.length_replicate]
        exact M1.tch (S := fun _ => False) (Tch.of_below ((Below.refl _ _).alloc (Nat.le_refl _) _)) (fun e => e)
      no := fun _ _ => rfl
      yes := fun _ _ e => by cases e
      apart := fun _ _ _ _ e => by cases e
      sd := ⟨by have := hs.out; omega, by omega⟩
      sl := ⟨Nat.le_refl _, by have := hs.out; omega⟩
      sv := ⟨by have := hs.out; omega, by omega⟩
      sg := fun _ _ _ e => by cases e
      slt := fun k hk => by simp; exact hk.2 }
  · exact (B1.out.alloc B1.out.size _).alloc (by simp; have := B1.out.size; omega) _

end Go.Proofs.Ytaacidgihhcpkaa
