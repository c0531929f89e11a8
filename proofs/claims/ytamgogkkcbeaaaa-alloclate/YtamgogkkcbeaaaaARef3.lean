/-
  The document's map: New, Settle, Take.
-/
import Derived.Test.YtamgogkkcbeaaaaARef2
namespace Go.Proofs.Ytamgogkkcbeaaaa
open Go.RowKit Ah
set_option linter.unusedVariables false
set_option maxRecDepth 100000

theorem rnew_bad (lo hi : Int) (hb : lo < 0 ∨ 65536 < hi ∨ hi < lo) (w : World) :
    Calls Try.prog 9 #[.int .i64 lo, .int .i64 hi] w fun e w' => e = .returned (.tuple #[.pointer none, .int .i64 1]) ∧ w' = w := by
  by_cases h1 : lo < 0
  · clear hb
    go_enter Try.func9, Try.ntmps9
    go_wp2_with fail
    all_goals first | (go_ret2; exact ⟨rfl, rfl⟩) | omega
  · by_cases h2 : 65536 < hi
    · clear hb
      go_enter Try.func9, Try.ntmps9
      go_wp2_with fail
      all_goals first | (go_ret2; exact ⟨rfl, rfl⟩) | omega
    · have h3 : hi < lo := by omega
      clear hb
      go_enter Try.func9, Try.ntmps9
      go_wp2_with fail
      all_goals first | (go_ret2; exact ⟨rfl, rfl⟩) | omega

set_option maxHeartbeats 1000000 in
theorem rnew_any (lo hi : Nat) (h : lo ≤ hi) (h2 : hi ≤ 65536) (w : World) :
    Calls Try.prog 9 #[.int .i64 lo, .int .i64 hi] w fun e w' => ∃ R, e = .returned (.tuple #[rp R, .int .i64 0]) ∧ Rm w' R (new lo hi) (fun k => w.heap.size ≤ k ∧ k < w'.heap.size) ∧ Below w.heap.size w w' := by
  have t1 : decide (hi < lo) = false := by simp; omega
  obtain ⟨d, hd⟩ : ∃ d, Hid (hi - lo = d) := ⟨_, rfl⟩
  have hs : (hi : Int) - (lo : Int) = (d : Int) := by have := hd.out; omega
  have hd9 : d ≤ 65536 := by have := hd.out; omega
  obtain ⟨j0, hj, hy0, hy1, hy2⟩ := elem64.info
  go_enter Try.func9, Try.ntmps9
  go_wp2_with (at_make; refine wpList_make_full _ rfl (.tmp 20) (.tmp 20) 41 rfl 0 3 j0 _ 1 Try.underlying41 hj hy0 hy1 .i64 .i64 _ _ d rfl rfl rfl rfl (by rw [hy2]; omega) (by unfold maxLen; omega) (Nat.zero_le _) ?_)
  intro w2 ho2 hg2
  have b2 : Below w.heap.size w w2 := (Below.refl _ _).grown hg2 (Nat.le_refl _) (fun k e => by cases e)
  have O2 : OwnsI w2 (.slice (some ⟨w.heap.size, 0, none⟩) d d) (List.replicate d 0) := by
    show w2.ownsRow _ _ _ _ _ _
    rw [toList_madeCells_one] at ho2
    simp only [List.length_replicate, List.map_replicate]
    exact ho2
  have HB : Hid (Below w.heap.size w w2) := b2
  have HO : Hid (OwnsI w2 (.slice (some ⟨w.heap.size, 0, none⟩) d d) (List.replicate d 0)) := O2
  clear ho2 hg2 b2 O2 hj hy0 hy1 hy2
  go_wp2_with fail
  go_ret2
  have hsz := HB.out.size
  have B3 : Below w.heap.size w (w2.alloc (.cells #[.int .i64 lo, .slice (some ⟨w.heap.size, 0, none⟩) d d, .int .i64 0] 58)) := HB.out.alloc hsz _
  have T3 : Tch (fun _ => False) w2 (w2.alloc (.cells #[.int .i64 lo, .slice (some ⟨w.heap.size, 0, none⟩) d d, .int .i64 0] 58)) := (Tch.refl _ w2).alloc _
  have O3 := HO.out.tch T3 (fun _ _ e => e)
  refine ⟨w2.heap.size, rfl, ⟨.slice (some ⟨w.heap.size, 0, none⟩) d d, ⟨heap_alloc_new w2 _, ?_, new_ok h h2⟩, fun k hk => ?_, fun k hk => hk.2⟩, B3⟩
  · simp only [new]; rw [hd.out]; exact O3
  · rcases hk with e | e
    · subst e; exact ⟨hsz, by simp⟩
    · exact ⟨by cases e; exact Nat.le_refl _, O3.lt k e⟩

namespace Ah
def fz2 (x : Int) : Int := if x = 2 then 0 else x
def stk (L : List Int) (k : Nat) : List Int := (L.take k).map fz2 ++ L.drop k
theorem stk_len (L : List Int) (k : Nat) : (stk L k).length = L.length := by simp [stk]; omega
theorem stk_get (L : List Int) (k i : Nat) (hk : k ≤ L.length) (hi : i < L.length) : G (stk L k) i = if i < k then fz2 (G L i) else G L i := by
  unfold stk G
  by_cases h : i < k
  · rw [if_pos h, List.getD_eq_getElem?_getD, List.getElem?_append_left (by simp; omega)]
    simp [List.getD_eq_getElem?_getD, h, hi]
  · rw [if_neg h, List.getD_eq_getElem?_getD, List.getElem?_append_right (by simp; omega)]
    simp only [List.length_map, List.length_take, Nat.min_eq_left hk, List.getElem?_drop, List.getD_eq_getElem?_getD]
    congr 2
    omega
theorem stk_hit (L : List Int) (k : Nat) (h : k < L.length) (h2 : G L k = 2) : (stk L k).set k 0 = stk L (k + 1) := by
  apply ext_G
  · simp [stk_len]
  · intro i hi
    rw [List.length_set, stk_len] at hi
    rw [G_set _ _ _ _ (by rw [stk_len]; exact h), stk_get L k i (by omega) hi, stk_get L (k + 1) i (by omega) hi]
    by_cases e : i = k
    · subst e; rw [if_pos rfl, if_pos (by omega), h2]; rfl
    · rw [if_neg e]
      by_cases e2 : i < k
      · rw [if_pos e2, if_pos (by omega)]
      · rw [if_neg e2, if_neg (by omega)]
theorem stk_miss (L : List Int) (k : Nat) (h : k < L.length) (h2 : G L k ≠ 2) : stk L k = stk L (k + 1) := by
  apply ext_G
  · simp [stk_len]
  · intro i hi
    rw [stk_len] at hi
    rw [stk_get L k i (by omega) hi, stk_get L (k + 1) i (by omega) hi]
    by_cases e : i = k
    · subst e; rw [if_neg (by omega), if_pos (by omega)]; unfold fz2; rw [if_neg h2]
    · by_cases e2 : i < k
      · rw [if_pos e2, if_pos (by omega)]
      · rw [if_neg e2, if_neg (by omega)]
theorem stk_all (L : List Int) : stk L L.length = L.map (fun x => if x = 2 then 0 else x) := by
  simp only [stk, List.take_length, List.drop_length, List.append_nil]
  rfl
theorem idx_is {L : List Int} {k : Nat} (hk : k < L.length) (h0 : G L k = 0) (hb : ∀ j, j < k → G L j ≠ 0) : L.count 0 ≠ 0 ∧ L.idxOf 0 = k := by
  have hc : L.count 0 ≠ 0 := by
    have : (0 : Int) ∈ L := by rw [← h0]; exact G_mem hk
    have := List.count_pos_iff.2 this
    omega
  obtain ⟨h1, h2, h3⟩ := first0 hc
  refine ⟨hc, ?_⟩
  rcases Nat.lt_trichotomy (L.idxOf 0) k with e | e | e
  · exact absurd h2 (hb _ e)
  · exact e
  · exact absurd h0 (h3 _ e)
theorem none0 {L : List Int} (hb : ∀ j, j < L.length → G L j ≠ 0) : L.count 0 = 0 := by
  rw [List.count_eq_zero]
  intro hm
  obtain ⟨k, hk, e⟩ := mem_G hm
  exact hb k hk e
end Ah

set_option maxHeartbeats 1000000 in
theorem rsettle_any (R : Nat) (s : St) (Y : Nat → Prop) (w : World) (H : Rm w R s Y) :
    Calls Try.prog 34 #[rp R] w fun e w' => e = .returned (.tuple #[]) ∧ Rm w' R (stl s) Y ∧ Tch Y w w' := by
  obtain ⟨vr, h, hy, hl⟩ := H
  have HH : Hid (RmAt w R s vr) := h
  have HY : Hid (∀ k, k = R ∨ vr.ownBlock = some k → Y k) := hy
  have HL : Hid (∀ k, Y k → k < w.heap.size) := hl
  obtain ⟨a, cap, rfl, hcap, hmax, _⟩ := h.own.rd
  have htop := h.ok.top
  have hne : ∀ k, (Value.slice a s.L.length cap).ownBlock = some k → k ≠ R := fun k hk => h.ne hk
  obtain ⟨m, hm⟩ : ∃ m, Hid (s.L.length = m) := ⟨_, rfl⟩
  rw [hm.out] at hcap htop HH HY hne
  have HNE : Hid (∀ k, (Value.slice a m cap).ownBlock = some k → k ≠ R) := hne
  have hm9 : m ≤ 65536 := by omega
  unfold maxLen at hmax
  clear h hy hl htop hne
  go_enter Try.func34, Try.ntmps34
  go_wp2_with fail
  go_loopw [2] (fun i wr => ∃ k : Nat, k ≤ m ∧ i = .int .i64 k ∧ Hid (OwnsI wr (.slice a m cap) (stk s.L k)) ∧ Hid (Tch (fun k => (Value.slice a m cap).ownBlock = some k) w wr)) (fun i _ => m - (intOf i).toNat)
  case atStart => exact ⟨0, Nat.zero_le _, rfl, (show OwnsI w (.slice a m cap) (stk s.L 0) by have := HH.out.own; simpa [stk] using this), Tch.refl _ _⟩
  case round =>
    obtain ⟨k, hk, rfl, HO, HT⟩ := hrel
    have c1 : wr.cell? ⟨R, 1, none⟩ = some (.slice a m cap) := by rw [HT.out.cell (p := ⟨R, 1, none⟩) HH.out.lt (fun e => HNE.out _ e rfl)]; exact HH.out.c1
    by_cases hlt : k < m
    · obtain ⟨g, cap', he, hg, _, _, hc, fz⟩ := HO.out.shape (by rw [stk_len, hm.out]; omega)
      simp only [Value.slice.injEq] at he
      obtain ⟨rfl, hxx, rfl⟩ := he
      have ck := hc k (by rw [stk_len, hm.out]; exact hlt)
      have fk := fz k
      have eg : (stk s.L k).getD k 0 = G s.L k := by
        have := stk_get s.L k k (by rw [hm.out]; exact hk) (by rw [hm.out]; exact hlt)
        rw [if_neg (by omega)] at this
        exact this
      rw [eg] at ck
      obtain ⟨y, hy⟩ : ∃ y, Hid (G s.L k = y) := ⟨_, rfl⟩
      rw [hy.out] at ck
      have hgR : g ≠ R := HNE.out g rfl
      clear hxx hc fz eg hg
      by_cases h2 : y = 2
      · have HO2 : Hid (OwnsI (wr.setCell ⟨g, k, none⟩ (.int .i64 0)) (.slice (some ⟨g, 0, none⟩) m cap) (stk s.L (k + 1))) := by
          rw [← stk_hit s.L k (by rw [hm.out]; exact hlt) (by rw [hy.out]; exact h2)]
          exact HO.out.set k 0
        have HT2 : Hid (Tch (fun k => (Value.slice (some ⟨g, 0, none⟩) m cap).ownBlock = some k) w (wr.setCell ⟨g, k, none⟩ (.int .i64 0))) := Tch.setCell HT.out (p := ⟨g, k, none⟩) (fun _ => rfl) _
        subst h2
        go_wp2_with fail
        go_roundw
        case rel => exact ⟨k + 1, by omega, by first | rfl | go_num, HO2, HT2⟩
        case measure => simp [intOf]; omega
      · have h2' : (y == 2) = false := by simp [h2]
        have HO2 : Hid (OwnsI wr (.slice (some ⟨g, 0, none⟩) m cap) (stk s.L (k + 1))) := by
          rw [← stk_miss s.L k (by rw [hm.out]; exact hlt) (by rw [hy.out]; exact h2)]
          exact HO.out
        clear h2
        go_wp2_with fail
        go_roundw
        case rel => exact ⟨k + 1, by omega, by first | rfl | go_num, HO2, HT⟩
        case measure => simp [intOf]; omega
    · have hkm : k = m := by omega
      have HF : Hid (OwnsI wr (.slice a m cap) (stl s).L) := by
        have := HO.out
        rw [hkm, ← hm.out, stk_all] at this
        rw [← hm.out]
        exact this
      have hd : decide (k < m) = false := by simp; omega
      clear hkm
      go_wp2_with fail
      go_end0
      refine ⟨rfl, Rm.made HY.out HL.out (s' := stl s) ⟨?_, HF.out, stl_ok HH.out.ok⟩ (HT.out.mono (fun k _ e => .inr e))⟩
      rw [HT.out.block R HH.out.lt (fun e => HNE.out _ e rfl)]
      exact HH.out.blk

set_option maxHeartbeats 1000000 in
theorem rtake_any (R : Nat) (s : St) (Y : Nat → Prop) (w : World) (H : Rm w R s Y) :
    Calls Try.prog 27 #[rp R] w fun e w' => e = .returned (.tuple #[.int .i64 (take s).1, .bool (take s).2.1]) ∧ Rm w' R (take s).2.2 Y ∧ Tch Y w w' := by
  obtain ⟨vr, h, hy, hl⟩ := H
  have HH : Hid (RmAt w R s vr) := h
  have HY : Hid (∀ k, k = R ∨ vr.ownBlock = some k → Y k) := hy
  have HL : Hid (∀ k, Y k → k < w.heap.size) := hl
  have c1 := h.c1
  have c0 := h.c0
  have c2 := h.c2
  have f2 := h.fz 2
  obtain ⟨a, cap, rfl, hcap, hmax, _⟩ := h.own.rd
  have htop := h.ok.top
  obtain ⟨m, hm⟩ : ∃ m, Hid (s.L.length = m) := ⟨_, rfl⟩
  obtain ⟨l, hl2⟩ : ∃ l, Hid (s.lo = l) := ⟨_, rfl⟩
  obtain ⟨az, haz⟩ : ∃ l, Hid (s.as = l) := ⟨_, rfl⟩
  have ha9 : az ≤ 65536 := by
    have h2 := List.count_le_length (a := (0 : Int)) (l := s.L)
    have := h.ok.aside
    have := haz.out
    omega
  rw [hm.out] at hcap htop HH HY c1
  rw [hl2.out] at htop c0
  rw [haz.out] at c2
  unfold maxLen at hmax
  clear h hy hl
  go_enter Try.func27, Try.ntmps27
  go_wp2_with fail
  go_loopw [4] (fun i wr => ∃ k : Nat, k ≤ m ∧ i = .int .i64 k ∧ Hid (∀ j, j < k → G s.L j ≠ 0) ∧ wr = w) (fun i _ => m - (intOf i).toNat)
  case atStart => exact ⟨0, Nat.zero_le _, rfl, (fun j hj => by omega), rfl⟩
  case round =>
    obtain ⟨k, hk, rfl, HB, rfl⟩ := hrel
    by_cases hlt : k < m
    · have hown := HH.out.own
      obtain ⟨g, cap', he, hg, _, _, hc, fz⟩ := hown.shape (by rw [hm.out]; omega)
      simp only [Value.slice.injEq] at he
      obtain ⟨rfl, hxx, rfl⟩ := he
      have ck := hc k (by rw [hm.out]; exact hlt)
      have fk := fz k
      obtain ⟨y, hy⟩ : ∃ y, Hid (G s.L k = y) := ⟨_, rfl⟩
      have hy2 : s.L.getD k 0 = y := hy.out
      rw [hy2] at ck
      have hgR : g ≠ R := HH.out.ne rfl
      clear hxx hc fz hg hy2 hown
      by_cases h2 : y = 0
      · obtain ⟨hcnt, hidx⟩ := idx_is (L := s.L) (k := k) (by rw [hm.out]; exact hlt) (by rw [hy.out]; exact h2) HB.out
        have hlk : (l : Int) + (k : Int) = ((l + k : Nat) : Int) := by omega
        have et : take s = (((s.lo + k : Nat) : Int), true, ⟨s.lo, s.L.set k 1, s.as - 1⟩) := by unfold take; rw [if_neg hcnt, hidx]
        have ok := take_ok HH.out.ok
        rw [et] at ok
        have HET : Hid (take s = (((s.lo + k : Nat) : Int), true, ⟨s.lo, s.L.set k 1, s.as - 1⟩)) := et
        have HOK : Hid (Sok ⟨s.lo, s.L.set k 1, s.as - 1⟩) := ok
        have HW : Hid (OwnsI (wr.setCell ⟨g, k, none⟩ (.int .i64 1)) (.slice (some ⟨g, 0, none⟩) m cap) (s.L.set k 1) ∧ Tch (fun k => k = g) wr (wr.setCell ⟨g, k, none⟩ (.int .i64 1))) := ⟨HH.out.own.set k 1, Tch.setCell (Tch.refl (fun k => k = g) wr) (p := ⟨g, k, none⟩) (fun _ => rfl) _⟩
        obtain ⟨W, hW⟩ : ∃ W, wr.setCell ⟨g, k, none⟩ (.int .i64 1) = W := ⟨_, rfl⟩
        rw [hW] at HW
        have d0 : W.cell? ⟨R, 0, none⟩ = some (.int .i64 l) := by rw [HW.out.2.cell (p := ⟨R, 0, none⟩) HH.out.lt (fun e => hgR e.symm)]; exact c0
        have d2 : W.cell? ⟨R, 2, none⟩ = some (.int .i64 az) := by rw [HW.out.2.cell (p := ⟨R, 2, none⟩) HH.out.lt (fun e => hgR e.symm)]; exact c2
        have e2 : W.frozen? ⟨R, 2, none⟩ = false := by rw [HW.out.2.frozen (p := ⟨R, 2, none⟩) HH.out.lt (fun e => hgR e.symm)]; exact f2
        have HBK : Hid (W.heap[R]? = some (.cells #[.int .i64 s.lo, .slice (some ⟨g, 0, none⟩) m cap, .int .i64 s.as] 58 (0, 0))) := by
          rw [HW.out.2.block R HH.out.lt (fun e => hgR e.symm)]; exact HH.out.blk
        have HEQ : Hid ((.int .i64 ((s.lo + k : Nat) : Int) : Value) = .int .i64 ((l + k : Nat) : Int)) := by show _ = _; rw [hl2.out]
        subst h2
        clear hcnt hidx et ok c0 c2 f2 hlk
        by_cases ha0 : az = 0
        · subst ha0
          go_wp2_with fail
          go_ret2
          rw [HET.out]
          refine ⟨by simp only; rw [HEQ.out]; simp, Rm.made HY.out HL.out (s' := ⟨s.lo, s.L.set k 1, s.as - 1⟩) ⟨?_, HW.out.1, HOK.out⟩ (HW.out.2.mono (fun k _ e => .inr (by rw [e]; rfl)))⟩
          have := HBK.out
          rw [haz.out] at this ⊢
          exact this
        · have hap : (0 : Int) < (az : Int) := by omega
          have hw9 : (az : Int) - 1 = ((az - 1 : Nat) : Int) := by omega
          go_wp2_with fail
          go_ret2
          rw [HET.out]
          have T9 : Tch (fun k => k = R) W (W.setCell ⟨R, 2, none⟩ (.int .i64 ((az - 1 : Nat) : Int))) := Tch.setCell (Tch.refl (fun k => k = R) W) (p := ⟨R, 2, none⟩) (fun _ => rfl) _
          refine ⟨by simp only; rw [HEQ.out]; simp, Rm.made HY.out HL.out (s' := ⟨s.lo, s.L.set k 1, s.as - 1⟩) ⟨?_, HW.out.1.tch T9 (fun k hk e => hgR (by cases hk; exact e)), HOK.out⟩ ((HW.out.2.mono (fun k _ e => .inr (by rw [e]; rfl))).trans T9 (fun k _ e => .inl e))⟩
          rw [heap_setCell_same W R 2 _ _ _ HBK.out, haz.out]
          rfl
      · have h2' : (y == 0) = false := by simp [h2]
        have HB2 : Hid (∀ j, j < k + 1 → G s.L j ≠ 0) := fun j hj => by
          by_cases e : j = k
          · subst e; rw [hy.out]; exact h2
          · exact HB.out j (by omega)
        clear h2
        go_wp2_with fail
        go_roundw
        case rel => exact ⟨k + 1, by omega, by first | rfl | go_num, HB2, by first | rfl | trivial⟩
        case measure => simp [intOf]; omega
    · have hkm : k = m := by omega
      have et : take s = (0, false, s) := by
        unfold take
        rw [if_pos (none0 (fun j hj => HB.out j (by rw [hm.out] at hj; omega)))]
      have HET : Hid (take s = (0, false, s)) := et
      have hd : decide (k < m) = false := by simp; omega
      clear hkm et
      go_wp2_with fail
      go_ret2
      rw [HET.out]
      exact ⟨rfl, Rm.made HY.out HL.out HH.out (Tch.refl _ _)⟩
end Go.Proofs.Ytamgogkkcbeaaaa
