/-
  'append(v, make([]int, n)...)': a row of ints with n zeros behind it.
-/
import Derived.Test.YtcmnhgefeffcpaaE64
namespace Go.Proofs.Ytcmnhgefeffcpaa
open Go.RowKit Pl
set_option linter.unusedVariables false
set_option linter.unusedSimpArgs false

theorem zeroCells_ints (n : Nat) : Builtin.zeroCells (Value.int .i64 0).cells n = (List.replicate n (Value.int .i64 0)).toArray := by
  apply Array.ext'
  simp only [Builtin.zeroCells, Value.cells]
  apply List.ext_getElem
  · simp
  · intro i h1 h2
    simp [Nat.mod_one]

theorem under_int : Try.prog.underlying 3 = some (.int .i64) := by kernel_rfl

theorem asInt_run (n : Int) (w : World) : (asInt (.int .i64 n)).run Try.prog w = .ok n w := by simp [asInt, asIntOf]

set_option maxHeartbeats 1000000 in
theorem run_appz (w : World) (ty : TypeId) (v : Value) (xs : List Int) (n : Nat) (hown : Owns .i64 3 w v xs) (hn : xs.length + n ≤ 4096) :
    ∃ v' w', (Builtin.append_ #[22, 3] ty #[v, .int .i64 (n : Int)]).run Try.prog w = .ok v' w' ∧ Owns .i64 3 w' v' (xs ++ List.replicate n 0) ∧ Grew w w' v v' := by
  obtain ⟨ht, i, hi, hz, hs1, hby⟩ := elem64
  have hu := under_int
  have hw : IntKind.i64.wrap (n : Int) = (n : Int) := wraps_i64 _ (by omega) (by omega)
  have hn0 : ¬ ((n : Int) < 0) := by omega
  have hn48 : ¬ (281474976710656 < (n : Int) * 8) := by omega
  have ho : w.ownsRow 0 3 1 v xs.length (xs.map (Value.int .i64)) := hown
  have hai := fun w' => asInt_run (n : Int) w'
  by_cases h0 : n = 0
  · subst h0
    refine ⟨v, w, ?_, by simpa using hown, Grew.refl _ _⟩
    have hai0 := fun w' => asInt_run 0 w'
    have hw0 : IntKind.i64.wrap 0 = 0 := by rw [wraps_i64 _ (by omega) (by omega)]
    rcases ho.2 with ⟨rfl, hx0⟩ | ⟨g, cap, cur, rfl, hb, hg, hnc, hcm, hcs, htake⟩
    · simp [Builtin.append_, run_underlying ht, run_underlying hu, sizeOf, typeInfo, hi, hs1, hby, hw0, hai0]
    · simp [Builtin.append_, run_underlying ht, run_underlying hu, sizeOf, typeInfo, hi, hs1, hby, hw0, hai0, hnc, storeCells]
  · have hnz : ¬ ((n : Int) ≤ 0) := by omega
    have grown : ∀ (cap : Nat), cap < xs.length + n →
        Owns .i64 3 (w.drew.alloc (.cells ((xs.map (Value.int .i64)).toArray ++ (Builtin.zeroCells (Value.int .i64 0).cells n ++ Builtin.zeroCells (Value.int .i64 0).cells (grownCap w (xs.length + n) cap 3 - (xs.length + n)))) 3))
          (.slice (some ⟨w.heap.size, 0, none⟩) (xs.length + n) (grownCap w (xs.length + n) cap 3)) (xs ++ List.replicate n 0) ∧
        Grew w (w.drew.alloc (.cells ((xs.map (Value.int .i64)).toArray ++ (Builtin.zeroCells (Value.int .i64 0).cells n ++ Builtin.zeroCells (Value.int .i64 0).cells (grownCap w (xs.length + n) cap 3 - (xs.length + n)))) 3)) v (.slice (some ⟨w.heap.size, 0, none⟩) (xs.length + n) (grownCap w (xs.length + n) cap 3)) := by
      intro cap hc
      have hge := grownCap_ge w (xs.length + n) cap 3
      have hcm : grownCap w (xs.length + n) cap 3 ≤ maxLen := grownCap_le_maxLen w (xs.length + n) cap 3 (by unfold maxLen; omega)
      have hl : (xs ++ List.replicate n 0).length = xs.length + n := by simp
      refine ⟨?_, ⟨rfl, rfl, rfl, by simp, fun k hk _ => Below.heap_alloc w.drew _ k hk⟩, fun k hk => ?_⟩
      · unfold Owns
        rw [hl]
        refine ⟨by simp, .inr ⟨w.heap.size, _, _, rfl, Nat.zero_le _, heap_alloc_new w.drew _, hge, hcm, ?_, ?_⟩⟩
        · simp only [Array.size_append, List.size_toArray, size_zeroCells, List.length_map, Value.cells]
          simp
          omega
        · rw [zeroCells_ints, zeroCells_ints]
          simp only [Array.toList_append, List.map_append, List.map_replicate]
          rw [← List.append_assoc]
          have : (xs.map (Value.int .i64) ++ List.replicate n (Value.int .i64 0)).length = (xs.length + n) * 1 := by simp
          rw [← this]
          exact List.take_left
      · simp only [Value.ownBlock, Option.some.injEq] at hk
        exact .inr (by omega)
    have h63' : ¬ (9223372036854775807 < ((xs.length : Int) + (n : Int))) := by omega
    rcases ho.2 with ⟨rfl, hx0⟩ | ⟨g, cap, cur, rfl, hb, hg, hnc, hcm, hcs, htake⟩
    · have hxs : xs = [] := List.eq_nil_of_length_eq_zero hx0
      subst hxs
      obtain ⟨g1, g2⟩ := grown 0 (by simp; omega)
      simp only [List.length_nil, Nat.zero_add] at g1 g2
      have hfit : ¬ (281474976710656 < Builtin.nextslicecap n 0 * 8) := by have := growslice_fits (old := 0) (need := n) (bytes := 8) (by omega) (by omega); omega
      have h63 : ¬ (9223372036854775807 < (n : Int)) := by omega
      refine ⟨_, _, ?_, g1, g2⟩
      simp [Builtin.append_, run_underlying ht, run_underlying hu, sizeOf, typeInfo, zeroValue, hi, hz, hs1, hby, hw, hai, h0, hn0, hn48, hnz, h63, hfit, Question.forced, Builtin.firstCells, loadCells, loadCellsFrom, newRow, grownCap]
    · by_cases hroom : xs.length + n ≤ cap
      · have hst := run_storeCells_at Try.prog g xs.length 3 (List.replicate n (Value.int .i64 0)) 0 cur w hg (by simp; omega) (fun u hu => by rw [List.eq_of_mem_replicate hu]; rfl)
        simp only [Nat.add_zero] at hst
        have hl : (xs ++ List.replicate n 0).length = xs.length + n := by simp
        refine ⟨.slice (some ⟨g, 0, none⟩) (xs.length + n) cap, w.setRow g (cur.toList.take xs.length ++ List.replicate n (Value.int .i64 0) ++ cur.toList.drop (xs.length + (List.replicate n (Value.int .i64 0)).length)).toArray, ?_, ?_, ?_⟩
        · simp [Builtin.append_, run_underlying ht, run_underlying hu, sizeOf, typeInfo, zeroValue, hi, hz, hs1, hby, hw, hai, h0, hn0, hn48, hnz, hroom, zeroCells_ints, Addr.add_lit]
          simp at hst
          rw [hst]
          rfl
        · unfold Owns
          rw [hl]
          refine ⟨by simp, .inr ⟨g, cap, _, rfl, hb, setRow_heap w g cur _ 3 _ hg, hroom, hcm, ?_, ?_⟩⟩
          · simp only [List.size_toArray, List.length_append, List.length_take, List.length_drop, Array.length_toList, List.length_replicate]
            omega
          · have ht2 : cur.toList.take xs.length = xs.map (Value.int .i64) := by simpa using htake
            rw [ht2, List.map_append, List.map_replicate]
            have : (xs.map (Value.int .i64) ++ List.replicate n (Value.int .i64 0)).length = (xs.length + n) * 1 := by simp
            rw [← this]
            exact List.take_left
        · exact ⟨⟨rfl, rfl, rfl, by simp [World.setRow], fun k _ hk => setRow_other w g k _ (fun e => hk (by simp [Value.ownBlock, e]))⟩, fun k hk => .inl hk⟩
      · obtain ⟨g1, g2⟩ := grown cap (by omega)
        have hfit : ¬ (281474976710656 < Builtin.nextslicecap (xs.length + n) cap * 8) := by have := growslice_fits (old := cap) (need := xs.length + n) (bytes := 8) (by omega) (by omega); omega
        have hfo := run_firstCells_some (P := Try.prog) w.drew 1 xs.length ⟨g, 0, none⟩ xs.length cap (xs.map (Value.int .i64)) (by simp) (fun j u hu => by
          have := ho.cells (g := g) rfl j u hu
          simpa using this)
        refine ⟨_, _, ?_, g1, g2⟩
        simp [Builtin.append_, run_underlying ht, run_underlying hu, sizeOf, typeInfo, zeroValue, hi, hz, hs1, hby, hw, hai, h0, hn0, hn48, hnz, hroom, h63', hfit, Question.forced, hfo, newRow, grownCap]
end Go.Proofs.Ytcmnhgefeffcpaa
