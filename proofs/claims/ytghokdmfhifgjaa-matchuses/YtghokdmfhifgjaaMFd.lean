/-
  The finder: its block, and a new one.
-/
import Derived.Test.YtghokdmfhifgjaaE64
import Derived.Laws.Tables
namespace Go.Proofs.Ytghokdmfhifgjaa
open Go.RowKit Pl
set_option linter.unusedVariables false

theorem tch1 (w : World) (b o : Nat) (v : Value) : Tch (fun k => k = b) w (w.setCell ⟨b, o, none⟩ v) := Tch.setCell (Tch.refl (fun k => k = b) w) (p := ⟨b, o, none⟩) (fun _ => rfl) v

/-- The cells of a finder. -/
def fcs (dv : Value) (win lk : Int) (h : Nat → Int) (av : Value) : List Value := [dv, .int .i64 win, .int .i64 lk] ++ (List.range 4096).map (fun i => .int .i64 (h i)) ++ [av]

theorem fcs_len (dv : Value) (win lk : Int) (h : Nat → Int) (av : Value) : (fcs dv win lk h av).length = 4100 := by simp [fcs]

theorem fcs_0 (dv : Value) (win lk : Int) (h : Nat → Int) (av : Value) : (fcs dv win lk h av)[0]? = some dv := rfl
theorem fcs_1 (dv : Value) (win lk : Int) (h : Nat → Int) (av : Value) : (fcs dv win lk h av)[1]? = some (.int .i64 win) := rfl
theorem fcs_2 (dv : Value) (win lk : Int) (h : Nat → Int) (av : Value) : (fcs dv win lk h av)[2]? = some (.int .i64 lk) := rfl
theorem fcs_h (dv : Value) (win lk : Int) (h : Nat → Int) (av : Value) (s : Nat) (hs : s < 4096) : (fcs dv win lk h av)[3 + s]? = some (.int .i64 (h s)) := by
  unfold fcs
  rw [List.getElem?_append_left (by simp; omega), List.getElem?_append_right (by simp)]
  simp [hs]
theorem fcs_4 (dv : Value) (win lk : Int) (h : Nat → Int) (av : Value) : (fcs dv win lk h av)[4099]? = some av := by
  unfold fcs
  rw [List.getElem?_append_right (by simp)]
  simp

theorem fcs_set2 (dv : Value) (win lk : Int) (h : Nat → Int) (av : Value) (x : Int) : (fcs dv win lk h av).set 2 (.int .i64 x) = fcs dv win x h av := rfl

/-- One head turned. -/
def updh (h : Nat → Int) (s : Nat) (x : Int) (j : Nat) : Int := if j = s then x else h j

theorem fcs_seth (dv : Value) (win lk : Int) (h : Nat → Int) (av : Value) (s : Nat) (hs : s < 4096) (x : Int) : (fcs dv win lk h av).set (3 + s) (.int .i64 x) = fcs dv win lk (updh h s x) av := by
  apply List.ext_getElem?
  intro j
  rw [List.getElem?_set]
  by_cases e : 3 + s = j
  · subst e
    rw [if_pos rfl, if_pos (by rw [fcs_len]; omega), fcs_h _ _ _ _ _ _ hs]
    simp [updh]
  · rw [if_neg e]
    by_cases h3 : j < 3
    · match j, h3 with
      | 0, _ => rw [fcs_0, fcs_0]
      | 1, _ => rw [fcs_1, fcs_1]
      | 2, _ => rw [fcs_2, fcs_2]
    · by_cases h4 : j < 4099
      · obtain ⟨t, rfl⟩ : ∃ t, j = 3 + t := ⟨j - 3, by omega⟩
        rw [fcs_h _ _ _ _ _ _ (by omega), fcs_h _ _ _ _ _ _ (by omega)]
        simp only [updh]
        rw [if_neg (by omega)]
      · by_cases h5 : j = 4099
        · subst h5; rw [fcs_4, fcs_4]
        · rw [List.getElem?_eq_none (by rw [fcs_len]; omega), List.getElem?_eq_none (by rw [fcs_len]; omega)]

/-- A finder at block F, its chain at block G. -/
structure Fd (w : World) (F G n : Nat) (dv : Value) (win lk : Int) (h : Nat → Int) (ad : List Int) : Prop where
  blk : w.heap[F]? = some (.cells (fcs dv win lk h (.slice (some ⟨G, 0, none⟩) n n)).toArray 49 (0, 0))
  own : Owns .i64 3 w (.slice (some ⟨G, 0, none⟩) n n) ad
  ne : F ≠ G

section
variable {w : World} {F G n : Nat} {dv : Value} {win lk : Int} {h : Nat → Int} {ad : List Int}
theorem Fd.fz (H : Fd w F G n dv win lk h ad) (i : Nat) : w.frozen? ⟨F, i, none⟩ = false := frozen_of_row w F i _ _ H.blk
theorem Fd.at_ (H : Fd w F G n dv win lk h ad) (i : Nat) {v : Value} (hv : (fcs dv win lk h (.slice (some ⟨G, 0, none⟩) n n))[i]? = some v) : w.cell? ⟨F, i, none⟩ = some v := by
  rw [cell_of_row w F i _ _ (0, 0) H.blk]
  simpa using hv
theorem Fd.c0 (H : Fd w F G n dv win lk h ad) : w.cell? ⟨F, 0, none⟩ = some dv := H.at_ 0 (fcs_0 _ _ _ _ _)
theorem Fd.c1 (H : Fd w F G n dv win lk h ad) : w.cell? ⟨F, 1, none⟩ = some (.int .i64 win) := H.at_ 1 (fcs_1 _ _ _ _ _)
theorem Fd.c2 (H : Fd w F G n dv win lk h ad) : w.cell? ⟨F, 2, none⟩ = some (.int .i64 lk) := H.at_ 2 (fcs_2 _ _ _ _ _)
theorem Fd.ch (H : Fd w F G n dv win lk h ad) (s : Nat) (hs : s < 4096) : w.cell? ⟨F, 3 + s, none⟩ = some (.int .i64 (h s)) := H.at_ _ (fcs_h _ _ _ _ _ _ hs)
theorem Fd.c4 (H : Fd w F G n dv win lk h ad) : w.cell? ⟨F, 4099, none⟩ = some (.slice (some ⟨G, 0, none⟩) n n) := H.at_ 4099 (fcs_4 _ _ _ _ _)
theorem Fd.lt (H : Fd w F G n dv win lk h ad) : F < w.heap.size := (Array.getElem?_eq_some_iff.1 H.blk).1
theorem Fd.ltG (H : Fd w F G n dv win lk h ad) : G < w.heap.size := H.own.lt G rfl
theorem Fd.tch {S : Nat → Prop} {w' : World} (H : Fd w F G n dv win lk h ad) (ht : Tch S w w') (hF : ¬ S F) (hG : ¬ S G) : Fd w' F G n dv win lk h ad :=
  ⟨by rw [ht.block F H.lt hF]; exact H.blk, H.own.tch ht (fun j e => by simp only [Value.ownBlock, Option.some.injEq] at e; rw [← e]; exact hG), H.ne⟩
theorem Fd.below {w' : World} (H : Fd w F G n dv win lk h ad) (hb : Below w.heap.size w w') : Fd w' F G n dv win lk h ad := H.tch (S := fun _ => False) (Tch.of_below hb) (fun e => e) (fun e => e)

theorem Fd.setL (H : Fd w F G n dv win lk h ad) (x : Int) : Fd (w.setCell ⟨F, 2, none⟩ (.int .i64 x)) F G n dv win x h ad := by
  refine ⟨?_, H.own.tch (S := fun k => k = F) (tch1 w F 2 _) (fun j e => ?_), H.ne⟩
  · rw [heap_setCell_same w F 2 _ _ (.int .i64 x) H.blk, ← fcs_set2 dv win lk h _ x]
    simp
  · simp only [Value.ownBlock, Option.some.injEq] at e
    have := H.ne
    omega
theorem Fd.setH (H : Fd w F G n dv win lk h ad) (s : Nat) (hs : s < 4096) (x : Int) : Fd (w.setCell ⟨F, 3 + s, none⟩ (.int .i64 x)) F G n dv win lk (updh h s x) ad := by
  refine ⟨?_, H.own.tch (S := fun k => k = F) (tch1 w F (3 + s) _) (fun j e => ?_), H.ne⟩
  · rw [heap_setCell_same w F (3 + s) _ _ (.int .i64 x) H.blk, ← fcs_seth dv win lk h _ s hs x]
    simp
  · simp only [Value.ownBlock, Option.some.injEq] at e
    have := H.ne
    omega
theorem Fd.setA (H : Fd w F G n dv win lk h ad) (i : Nat) (x : Int) : Fd (w.setCell ⟨G, i, none⟩ (.int .i64 x)) F G n dv win lk h (ad.set i x) := by
  refine ⟨?_, H.own.set i x, H.ne⟩
  have ht : Tch (fun k => k = G) w (w.setCell ⟨G, i, none⟩ (.int .i64 x)) := tch1 w G i _
  rw [ht.block F H.lt (fun e => H.ne e)]
  exact H.blk
end

set_option maxRecDepth 1000000 in
theorem built_finder (a : Option Addr) (n c : Nat) (win : Int) (g m : Nat) : Try.prog.built 49 [(0, .slice a n c), (1, .int .i64 win), (4, .slice (some ⟨g, 0, none⟩) m m)] = some (fcs (.slice a n c) win 0 (fun _ => 0) (.slice (some ⟨g, 0, none⟩) m m)).toArray := by kernel_rfl

/-- 'finder{data: .., window: .., ahead: ..}', at the list of a region's operations. -/
theorem wpList_finder (w : World) {ops : Array Oper} {rest : List Oper} {o : Oper} {a : Act} {Q : Exit → Act → World → Prop} (hgd : o.guard = none) (x y z : Operand)
    (ho : o.op = .build 49 #[(0, x), (1, y), (4, z)]) (da : Option Addr) (n c : Nat) (win : Int) (g m : Nat) (hx : a.eval x = .slice da n c) (hy : a.eval y = .int .i64 win) (hz : a.eval z = .slice (some ⟨g, 0, none⟩) m m)
    (h : wpList Try.prog ops Q rest (a.put o.dst (.agg (fcs (.slice da n c) win 0 (fun _ => 0) (.slice (some ⟨g, 0, none⟩) m m)).toArray)) w) : wpList Try.prog ops Q (o :: rest) a w := by
  refine wpList_plain hgd fun K hK => ?_
  have hb := run_build (P := Try.prog) w 49 #[(0, .slice da n c), (1, .int .i64 win), (4, .slice (some ⟨g, 0, none⟩) m m)] _ (built_finder da n c win g m)
  unfold Oper.wp execOp
  simp only [ho, Sem.run_bind, List.map_toArray, List.map_cons, List.map_nil, hx, hy, hz, hb, Result.andThen_ok]
  exact hK _ _ h

set_option maxRecDepth 100000 in
set_option maxHeartbeats 1000000 in
theorem newFinder_any (da : Option Addr) (n c : Nat) (win : Int) (w : World) (hn : n ≤ 65536) :
    Calls Try.prog 19 #[.slice da n c, .int .i64 win] w fun e w' => ∃ F G, e = .returned (.pointer (some ⟨F, 0, none⟩)) ∧ Fd w' F G n (.slice da n c) win 0 (fun _ => 0) (List.replicate n 0) ∧ Below w.heap.size w w' ∧ w.heap.size ≤ F ∧ w.heap.size ≤ G := by
  obtain ⟨j0, hj, hy0, hy1, hy2⟩ := elem64.info
  go_enter Try.func19, Try.ntmps19
  go_wp2_with (at_make; refine wpList_make_full _ rfl (.tmp 8) (.tmp 8) 46 rfl 0 3 j0 _ 1 Try.underlying46 hj hy0 hy1 .i64 .i64 _ _ n rfl rfl rfl rfl (by rw [hy2]; omega) (by unfold maxLen; omega) (Nat.zero_le _) ?_)
  intro w2 ho2 hg2
  obtain ⟨g, hg⟩ : ∃ g, Hid (w.heap.size = g) := ⟨_, rfl⟩
  have OG : Hid (Owns .i64 3 w2 (.slice (some ⟨g, 0, none⟩) n n) (List.replicate n 0)) := by
    show w2.ownsRow _ _ _ _ _ _
    rw [toList_madeCells_one, hg.out] at ho2
    simpa using ho2
  have B2 : Hid (Below w.heap.size w w2) := (Below.refl _ _).grown hg2 (Nat.le_refl _) (fun k e => by cases e)
  rw [hg.out]
  clear ho2 hg2 hj hy0 hy1 hy2
  refine wpList_finder _ rfl (.tmp 5) (.tmp 6) (.tmp 9) rfl da n c win g n rfl rfl rfl ?_
  obtain ⟨cs, hcs⟩ : ∃ cs, Hid (fcs (.slice da n c) win 0 (fun _ => 0) (.slice (some ⟨g, 0, none⟩) n n) = cs) := ⟨_, rfl⟩
  rw [hcs.out]
  go_wp2_with fail
  go_ret
  refine ⟨w2.heap.size, g, rfl, ⟨?_, (OG.out.below ((Below.refl _ _).alloc (Nat.le_refl _) _)), ?_⟩, B2.out.trans (((Below.refl _ _).alloc (Nat.le_refl _) _).mono B2.out.size), B2.out.size, by rw [hg.out]; exact Nat.le_refl _⟩
  · rw [hcs.out]; exact heap_alloc_new w2 _
  · have := OG.out.lt g rfl
    omega
end Go.Proofs.Ytghokdmfhifgjaa
