/-
  'append(v, make([]int, n)...)', of some more; slices.Grow of none, and slices.Concat of two.
-/
import Derived.Test.YtkiejjnnjjdfjaaFPor
namespace Go.Proofs.Ytkiejjnnjjdfjaa
open Go.RowKit Pl
set_option linter.unusedVariables false
set_option linter.unusedSimpArgs false

set_option maxHeartbeats 1000000 in
theorem run_appz2 (w : World) (ty : TypeId) (v : Value) (xs : List Int) (n : Nat) (hown : Owns .i64 3 w v xs) (hn : xs.length + n ≤ 4096) :
    ∃ v' w', (Builtin.append_ #[22, 3] ty #[v, .int .i64 (n : Int)]).run Try.prog w = .ok v' w' ∧ Owns .i64 3 w' v' (xs ++ List.replicate n 0) ∧ Grew w w' v v' := by
  obtain ⟨ht, i, hi, hz, hs1, hby⟩ := elem64
  have hu := under_int
  have hw : IntKind.i64.wrap (n : Int) = (n : Int) := wraps_i64 _ (by omega) (by omega)
  have hn0 : ¬ ((n : Int) < 0) := by omega
  have hn48 : ¬ (281474976710656 < (n : Int) * 8) := by omega
  have ho : w.ownsRow 0 3 1 v xs.length (xs.map (Value.int .i64)) := hown
  have hai := fun w' => asInt_run (n : Int) w'
  by_cases h0 : n = 0
  · subst h0
    refine ⟨v, w, ?_, by simpa using hown, Grew.refl _ _⟩
    have hai0 := fun w' => asInt_run 0 w'
    have hw0 : IntKind.i64.wrap 0 = 0 := by rw [wraps_i64 _ (by omega) (by omega)]
    rcases ho.2 with ⟨rfl, hx0⟩ | ⟨g, cap, cur, rfl, hb, hg, hnc, hcm, hcs, htake⟩
    · simp [Builtin.append_, run_underlying ht, run_underlying hu, sizeOf, typeInfo, hi, hs1, hby, hw0, hai0]
    · simp [Builtin.append_, run_underlying ht, run_underlying hu, sizeOf, typeInfo, hi, hs1, hby, hw0, hai0, hnc, storeCells]
  · have hnz : ¬ ((n : Int) ≤ 0) := by omega
    have grown : ∀ (cap : Nat), cap < xs.length + n →
        Owns .i64 3 (w.drew.alloc (.cells ((xs.map (Value.int .i64)).toArray ++ (Builtin.zeroCells (Value.int .i64 0).cells n ++ Builtin.zeroCells (Value.int .i64 0).cells (grownCap w (xs.length + n) cap 3 - (xs.length + n)))) 3))
          (.slice (some ⟨w.heap.size, 0, none⟩) (xs.length + n) (grownCap w (xs.length + n) cap 3)) (xs ++ List.replicate n 0) ∧
        Grew w (w.drew.alloc (.cells ((xs.map (Value.int .i64)).toArray ++ (Builtin.zeroCells (Value.int .i64 0).cells n ++ Builtin.zeroCells (Value.int .i64 0).cells (grownCap w (xs.length + n) cap 3 - (xs.length + n)))) 3)) v (.slice (some ⟨w.heap.size, 0, none⟩) (xs.length + n) (grownCap w (xs.length + n) cap 3)) := by
      intro cap hc
      have hge := grownCap_ge w (xs.length + n) cap 3
      have hcm : grownCap w (xs.length + n) cap 3 ≤ maxLen := grownCap_le_maxLen w (xs.length + n) cap 3 (by unfold maxLen; omega)
      have hl : (xs ++ List.replicate n 0).length = xs.length + n := by simp
      refine ⟨?_, ⟨rfl, rfl, rfl, by simp, fun k hk _ => Below.heap_alloc w.drew _ k hk⟩, fun k hk => ?_⟩
      · unfold Owns
        rw [hl]
        refine ⟨by simp, .inr ⟨w.heap.size, _, _, rfl, Nat.zero_le _, heap_alloc_new w.drew _, hge, hcm, ?_, ?_⟩⟩
        · simp only [Array.size_append, List.size_toArray, size_zeroCells, List.length_map, Value.cells]
          simp
          omega
        · rw [zeroCells_ints, zeroCells_ints]
          simp only [Array.toList_append, List.map_append, List.map_replicate]
          rw [← List.append_assoc]
          have : (xs.map (Value.int .i64) ++ List.replicate n (Value.int .i64 0)).length = (xs.length + n) * 1 := by simp
          rw [← this]
          exact List.take_left
      · simp only [Value.ownBlock, Option.some.injEq] at hk
        exact .inr (by omega)
    have h63' : ¬ (9223372036854775807 < ((xs.length : Int) + (n : Int))) := by omega
    rcases ho.2 with ⟨rfl, hx0⟩ | ⟨g, cap, cur, rfl, hb, hg, hnc, hcm, hcs, htake⟩
    · have hxs : xs = [] := List.eq_nil_of_length_eq_zero hx0
      subst hxs
      obtain ⟨g1, g2⟩ := grown 0 (by simp; omega)
      simp only [List.length_nil, Nat.zero_add] at g1 g2
      have hfit : ¬ (281474976710656 < Builtin.nextslicecap n 0 * 8) := by have := growslice_fits (old := 0) (need := n) (bytes := 8) (by omega) (by omega); omega
      have h63 : ¬ (9223372036854775807 < (n : Int)) := by omega
      refine ⟨_, _, ?_, g1, g2⟩
      simp [Builtin.append_, run_underlying ht, run_underlying hu, sizeOf, typeInfo, zeroValue, hi, hz, hs1, hby, hw, hai, h0, hn0, hn48, hnz, h63, hfit, Question.forced, Builtin.firstCells, loadCells, loadCellsFrom, newRow, grownCap]
    · by_cases hroom : xs.length + n ≤ cap
      · have hst := run_storeCells_at Try.prog g xs.length 3 (List.replicate n (Value.int .i64 0)) 0 cur w hg (by simp; omega) (fun u hu => by rw [List.eq_of_mem_replicate hu]; rfl)
        simp only [Nat.add_zero] at hst
        have hl : (xs ++ List.replicate n 0).length = xs.length + n := by simp
        refine ⟨.slice (some ⟨g, 0, none⟩) (xs.length + n) cap, w.setRow g (cur.toList.take xs.length ++ List.replicate n (Value.int .i64 0) ++ cur.toList.drop (xs.length + (List.replicate n (Value.int .i64 0)).length)).toArray, ?_, ?_, ?_⟩
        · simp [Builtin.append_, run_underlying ht, run_underlying hu, sizeOf, typeInfo, zeroValue, hi, hz, hs1, hby, hw, hai, h0, hn0, hn48, hnz, hroom, zeroCells_ints, Addr.add_lit]
          simp at hst
          rw [hst]
          rfl
        · unfold Owns
          rw [hl]
          refine ⟨by simp, .inr ⟨g, cap, _, rfl, hb, setRow_heap w g cur _ 3 _ hg, hroom, hcm, ?_, ?_⟩⟩
          · simp only [List.size_toArray, List.length_append, List.length_take, List.length_drop, Array.length_toList, List.length_replicate]
            omega
          · have ht2 : cur.toList.take xs.length = xs.map (Value.int .i64) := by simpa using htake
            rw [ht2, List.map_append, List.map_replicate]
            have : (xs.map (Value.int .i64) ++ List.replicate n (Value.int .i64 0)).length = (xs.length + n) * 1 := by simp
            rw [← this]
            exact List.take_left
        · exact ⟨⟨rfl, rfl, rfl, by simp [World.setRow], fun k _ hk => setRow_other w g k _ (fun e => hk (by simp [Value.ownBlock, e]))⟩, fun k hk => .inl hk⟩
      · obtain ⟨g1, g2⟩ := grown cap (by omega)
        have hfit : ¬ (281474976710656 < Builtin.nextslicecap (xs.length + n) cap * 8) := by have := growslice_fits (old := cap) (need := xs.length + n) (bytes := 8) (by omega) (by omega); omega
        have hfo := run_firstCells_some (P := Try.prog) w.drew 1 xs.length ⟨g, 0, none⟩ xs.length cap (xs.map (Value.int .i64)) (by simp) (fun j u hu => by
          have := ho.cells (g := g) rfl j u hu
          simpa using this)
        refine ⟨_, _, ?_, g1, g2⟩
        simp [Builtin.append_, run_underlying ht, run_underlying hu, sizeOf, typeInfo, zeroValue, hi, hz, hs1, hby, hw, hai, h0, hn0, hn48, hnz, hroom, h63', hfit, Question.forced, hfo, newRow, grownCap]
theorem wpList_appz2 (w : World) {ops : Array Oper} {rest : List Oper} {o : Oper} {a : Act} {Q : Exit → Act → World → Prop} (hgd : o.guard = none) (s x : Operand)
    (ho : o.op = .call { callee := .builtin .append, args := #[s, x], argTypes := #[22, 3] }) (v : Value) (xs : List Int) (hs : a.eval s = v) (hown : Owns .i64 3 w v xs) (n : Nat) (hx : a.eval x = .int .i64 (n : Int)) (hn : xs.length + n ≤ 4096)
    (h : ∀ v' w', Owns .i64 3 w' v' (xs ++ List.replicate n 0) → Grew w w' v v' → wpList Try.prog ops Q rest (a.put o.dst v') w') : wpList Try.prog ops Q (o :: rest) a w := by
  obtain ⟨v', w', hr, h2, h3⟩ := run_appz2 w o.type v xs n hown hn
  refine wpList_plain hgd fun K hK => ?_
  unfold Oper.wp
  simp [execOp, ho, resolve, invoke, builtin, hs, hx, hr, Result.andThen]
  exact hK _ _ (h v' w' h2 h3)


theorem Owns.head {k : IntKind} {e : TypeId} {w : World} {g n cap : Nat} {xs : List Int} (h : Owns k e w (.slice (some ⟨g, 0, none⟩) n cap) xs) : Owns k e w (.slice (some ⟨g, 0, none⟩) 0 cap) [] := by
  rcases h.2 with ⟨e1, _⟩ | ⟨g', cap', cur, e1, hb, hg, hnc, hcm, hs, ht⟩
  · cases e1
  · cases e1
    exact ⟨rfl, .inr ⟨g, cap, cur, rfl, hb, hg, Nat.zero_le _, hcm, hs, by simp⟩⟩

set_option maxHeartbeats 1000000 in
theorem grow_any (n : Nat) (w : World) (h1 : 1 ≤ n) (h2 : n ≤ 4096) :
    Calls Try.prog 54 #[.slice none 0 0, .int .i64 n] w fun e w' => ∃ v', e = .returned v' ∧ Owns .i64 3 w' v' [] ∧ Grew w w' (.slice none 0 0) v' := by
  go_enter Try.func54, Try.ntmps54
  go_wp2_with (at_builtin; refine wpList_appz2 _ rfl (.tmp 20) (.tmp 21) rfl _ [] rfl (owns_nil _ _ _) n rfl (by simp; omega) ?_)
  intro v2 w2 ho2 hg2
  obtain ⟨g, cap, hv, _, _, hcm, _, _⟩ := ho2.shape (by simp; omega)
  subst hv
  have HO : Hid (Owns .i64 3 w2 (.slice (some ⟨g, 0, none⟩) 0 cap) []) := ho2.head
  have HG : Hid (Grew w w2 (.slice none 0 0) (.slice (some ⟨g, 0, none⟩) 0 cap)) := ⟨hg2.1, fun k e => hg2.2 k e⟩
  have hcap : cap ≤ 9223372036854775807 := by unfold maxLen at hcm; omega
  clear ho2 hg2 hcm
  go_wp2_with fail
  go_ret
  exact ⟨_, rfl, HO.out, HG.out⟩
end Go.Proofs.Ytkiejjnnjjdfjaa

/-
  slices.Concat of two rows of ints.
-/
namespace Go.Proofs.Ytkiejjnnjjdfjaa
open Go.RowKit Pl
set_option linter.unusedVariables false

set_option maxRecDepth 100000 in
set_option maxHeartbeats 1000000 in
theorem concat_any (B : Nat) (va vb : Value) (xs ys : List Int) (w : World) (ha : Rd .i64 w va xs) (hb : Rd .i64 w vb ys) (h1 : 1 ≤ xs.length) (h2 : xs.length ≤ 1000) (h3 : ys.length ≤ 1000)
    (c0 : w.cell? ⟨B, 0, none⟩ = some va) (c1 : w.cell? ⟨B, 1, none⟩ = some vb) :
    Calls Try.prog 28 #[.slice (some ⟨B, 0, none⟩) 2 2] w fun e w' => ∃ v', e = .returned v' ∧ Owns .i64 3 w' v' (xs ++ ys) ∧ Grew w w' (.slice none 0 0) v' := by
  have HA : Hid (Rd .i64 w va xs) := ha
  have HB : Hid (Rd .i64 w vb ys) := hb
  obtain ⟨aa, ac, rfl, _, _, _, _⟩ := ha
  obtain ⟨ba, bc, rfl, _, _, _, _⟩ := hb
  have C0 : Hid (w.cell? ⟨B, 0, none⟩ = some (.slice aa xs.length ac)) := c0
  have C1 : Hid (w.cell? ⟨B, 1, none⟩ = some (.slice ba ys.length bc)) := c1
  obtain ⟨X, hX⟩ : ∃ X, Hid (xs.length = X) := ⟨_, rfl⟩
  obtain ⟨Y, hY⟩ : ∃ Y, Hid (ys.length = Y) := ⟨_, rfl⟩
  rw [hX.out] at h1 h2 HA C0 c0
  rw [hY.out] at h3 HB C1 c1
  go_enter Try.func28, Try.ntmps28
  go_wp2_with fail
  go_loop [3, 11] (fun s i => ∃ k q : Nat, k ≤ 2 ∧ i = .int .i64 k ∧ s = .int .i64 q ∧ ((k = 0 ∧ q = 0) ∨ (k = 1 ∧ q = X) ∨ (k = 2 ∧ q = X + Y))) (fun _ i => 2 - (intOf i).toNat)
  case atStart => exact ⟨0, 0, by omega, rfl, rfl, .inl ⟨rfl, rfl⟩⟩
  case round =>
    obtain ⟨k, q, hk, rfl, rfl, hkq⟩ := hrel
    rcases hkq with ⟨rfl, rfl⟩ | ⟨rfl, rfl⟩ | ⟨rfl, rfl⟩
    · go_wp2_with fail
      go_round
      case rel => exact ⟨1, X, by omega, by first | rfl | go_num, by first | rfl | go_num, .inr (.inl ⟨rfl, rfl⟩)⟩
      case measure => simp [intOf]
    · go_wp2_with fail
      go_round
      case rel => exact ⟨2, q + Y, by omega, by first | rfl | go_num, by first | rfl | go_num, .inr (.inr ⟨rfl, rfl⟩)⟩
      case measure => simp [intOf]
    · have HGR : Hid (Calls Try.prog 54 #[.slice none 0 0, .int .i64 ((X + Y : Nat) : Int)] w fun e w' => ∃ v', e = .returned v' ∧ Owns .i64 3 w' v' [] ∧ Grew w w' (.slice none 0 0) v') := grow_any (X + Y) w (by omega) (by omega)
      clear c0 c1
      go_wp2_with fail
      refine HGR.out.mono ?_
      clear HGR
      rintro e w2 ⟨v2, rfl, ho2, hg2⟩
      have O2 : Hid (Owns .i64 3 w2 v2 []) := ho2
      have G2 : Hid (Grew w w2 (.slice none 0 0) v2) := hg2
      clear ho2 hg2
      go_wp2_with fail
      go_loopw [6, 27] (fun r i wr => ∃ (k : Nat) (l : List Int), k ≤ 2 ∧ i = .int .i64 k ∧ ((k = 0 ∧ Hid (l = [])) ∨ (k = 1 ∧ Hid (l = xs)) ∨ (k = 2 ∧ Hid (l = xs ++ ys))) ∧ Hid (Owns .i64 3 wr r l) ∧ Hid (Grew w wr (.slice none 0 0) r)) (fun _ i _ => 2 - (intOf i).toNat)
      case atStart => exact ⟨0, [], by omega, rfl, .inl ⟨rfl, rfl⟩, O2, G2⟩
      case round =>
        clear O2 G2
        obtain ⟨k, l, hk, rfl, hkq, HO, HG⟩ := hrel
        have HBL : Hid (Below w.heap.size w wr) := HG.out.below.1
        rcases hkq with ⟨rfl, HL⟩ | ⟨rfl, HL⟩ | ⟨rfl, HL⟩
        · have d0 : wr.cell? ⟨B, 0, none⟩ = some (.slice aa X ac) := by rw [HBL.out.cell (p := ⟨B, 0, none⟩) (World.block_lt_of_cell? w ⟨B, 0, none⟩ C0.out), C0.out]
          have HA2 : Hid (Rd .i64 wr (.slice aa X ac) xs) := HA.out.below HBL.out
          go_wp2_with (at_builtin; refine wpList_many _ rfl (.tmp 31) (.tmp 32) 22 rfl 3 .i64 8 elem64 _ l rfl HO.out _ xs rfl HA2.out ?a1 ?a2 ?_)
          case a1 => rw [HL.out]; simp; rw [hX.out]; omega
          case a2 => rw [HL.out]; simp; rw [hX.out]; omega
          intro v3 w3 ho3 hg3
          have HO3 : Hid (Owns .i64 3 w3 v3 xs) := by have := ho3; rw [HL.out, List.nil_append] at this; exact this
          have HG3 : Hid (Grew w w3 (.slice none 0 0) v3) := HG.out.trans hg3
          clear ho3 hg3 HO HG d0 HA2
          go_wp2_with fail
          go_roundw
          case rel => exact ⟨1, xs, by omega, by first | rfl | go_num, .inr (.inl ⟨rfl, rfl⟩), HO3, HG3⟩
          case measure => simp [intOf]
        · have d0 : wr.cell? ⟨B, 1, none⟩ = some (.slice ba Y bc) := by rw [HBL.out.cell (p := ⟨B, 1, none⟩) (World.block_lt_of_cell? w ⟨B, 1, none⟩ C1.out), C1.out]
          have HA2 : Hid (Rd .i64 wr (.slice ba Y bc) ys) := HB.out.below HBL.out
          go_wp2_with (at_builtin; refine wpList_many _ rfl (.tmp 31) (.tmp 32) 22 rfl 3 .i64 8 elem64 _ l rfl HO.out _ ys rfl HA2.out ?a1 ?a2 ?_)
          case a1 => rw [HL.out, hX.out, hY.out]; omega
          case a2 => rw [HL.out, hX.out, hY.out]; omega
          intro v3 w3 ho3 hg3
          have HO3 : Hid (Owns .i64 3 w3 v3 (xs ++ ys)) := by have := ho3; rw [HL.out] at this; exact this
          have HG3 : Hid (Grew w w3 (.slice none 0 0) v3) := HG.out.trans hg3
          clear ho3 hg3 HO HG d0 HA2
          go_wp2_with fail
          go_roundw
          case rel => exact ⟨2, xs ++ ys, by omega, by first | rfl | go_num, .inr (.inr ⟨rfl, rfl⟩), HO3, HG3⟩
          case measure => simp [intOf]
        · go_wp2_with fail
          go_ret
          exact ⟨_, rfl, by have := HO.out; rw [HL.out] at this; exact this, HG.out⟩
end Go.Proofs.Ytkiejjnnjjdfjaa
