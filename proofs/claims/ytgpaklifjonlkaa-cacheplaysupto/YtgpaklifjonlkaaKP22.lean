import Derived.Test.YtgpaklifjonlkaaKP12
import Derived.Test.YtgpaklifjonlkaaKP13
import Derived.Test.YtgpaklifjonlkaaKP14
import Derived.Test.YtgpaklifjonlkaaKP17
import Derived.Test.YtgpaklifjonlkaaKP21
import Derived.Deep.RegionHeld3
import Derived.Test.YtgpaklifjonlkaaKP11
/-
  Is there such a block; the same block in memory of its own; a sector read, and written, as a block.
-/
namespace Go.Proofs.Ytgpaklifjonlkaa
open Go.RowKit Go.Maps
set_option linter.unusedVariables false
set_option linter.unusedSimpArgs false
set_option maxRecDepth 100000

set_option maxHeartbeats 400000 in
theorem thereK_any {S : Nat → Prop} {c d : Nat} {D : DS} (n : Int) (w : World) (hc : w.cell? ⟨c, 0, none⟩ = some (dp d)) (hd : Dk S w d D) :
    Calls Try.prog 44 #[cp c, .int .i64 n] w fun e w' => e = .returned (.bool (kthere D.L.length n)) ∧ w' = w := by
  have HS := hideP (size_any w hd)
  obtain ⟨N, hN⟩ : ∃ N, Hid (D.L.length = N) := ⟨_, rfl⟩
  rw [hN.out] at HS ⊢
  unfold kthere
  clear hd
  by_cases h1 : 50 ≤ n
  · by_cases h2 : n < (N : Int)
    · have e : (decide (50 ≤ n) && decide (n < (N : Int))) = true := by simp [h1, h2]
      rw [e]
      clear e
      go_enter Try.func44, Try.ntmps44
      go_wp2_with fail
      refine HS.out.mono ?_
      rintro e w ⟨rfl, rfl⟩
      go_wp2_with fail
      go_ret
      exact ⟨rfl, rfl⟩
    · have e : (decide (50 ≤ n) && decide (n < (N : Int))) = false := by simp [h2]
      rw [e]
      have h3 : decide (n < (N : Int)) = false := by rw [decide_eq_false_iff_not]; exact h2
      clear e h2
      go_enter Try.func44, Try.ntmps44
      go_wp2_with fail
      refine HS.out.mono ?_
      rintro e w ⟨rfl, rfl⟩
      go_wp2_with fail
      go_ret
      exact ⟨rfl, rfl⟩
  · have e : (decide (50 ≤ n) && decide (n < (N : Int))) = false := by simp [h1]
    rw [e]
    have h3 : decide (50 ≤ n) = false := by rw [decide_eq_false_iff_not]; exact h1
    clear e h1
    go_enter Try.func44, Try.ntmps44
    go_wp2_with fail
    go_ret
    exact ⟨rfl, rfl⟩

set_option maxHeartbeats 400000 in
/-- The same block in memory of its own. -/
theorem own_any (k : Int) (v : Value) (ys : List Int) (w : World) (hr : Rd .u8 w v ys) (hl : ys.length ≤ 140737488355328) :
    Calls Try.prog 47 #[blk k v] w fun e w' => ∃ u, e = .returned (blk k u) ∧ Nw w.heap.size w' u ys ∧ Below w.heap.size w w' := by
  obtain ⟨W1, hW1⟩ : ∃ W1, w.alloc (.cells #[.int .i64 k, v] 40) = W1 := ⟨_, rfl⟩
  obtain ⟨W2, hW2⟩ : ∃ W2, W1.alloc (.cells #[.int .i64 0, .slice none 0 0] 40) = W2 := ⟨_, rfl⟩
  have s1 : W1.heap.size = w.heap.size + 1 := by rw [← hW1]; simp
  have B2 : Hid (Below w.heap.size w W2) := by rw [← hW2, ← hW1]; exact ((Below.refl _ _).alloc (Nat.le_refl _) _).alloc (by simp) _
  have Q1 : Hid (Bkv W2 w.heap.size k v) := by
    rw [← hW2]
    refine Bkv.below (w := W1) ?_ ((Below.refl _ _).alloc (Nat.le_refl _) _)
    rw [← hW1]; exact bkv_new w _ _
  have Q2 : Hid (Bkv W2 (w.heap.size + 1) 0 (.slice none 0 0)) := by rw [← hW2, ← s1]; exact bkv_new W1 _ _
  have HC : Hid (∀ W, Below W2.heap.size W2 W → Calls Try.prog 73 #[v] W fun e w' => ∃ rv, e = .returned rv ∧ Nw W.heap.size w' rv ys ∧ Below W.heap.size W w') := fun W hb => clone_any v ys W ((hr.below B2.out).below hb) hl
  have q0 := Q1.out.c0
  have q1 := Q1.out.c1
  obtain ⟨a, m, cap, rfl⟩ : ∃ a m cap, v = .slice a m cap := by obtain ⟨a, c, e, _⟩ := hr; exact ⟨_, _, _, e⟩
  clear hr
  unfold blk
  go_enter Try.func47, Try.ntmps47
  go_wp2_with fail
  have B2d : Hid (Below W2.heap.size W2 W2.drew) := (Below.refl _ _).drew
  have HST : Hid (∀ W3, Below W2.drew.heap.size W2.drew W3 → (W3.cell? ⟨w.heap.size, 0, none⟩ = some (.int .i64 k) ∧ W3.cell? ⟨w.heap.size, 1, none⟩ = some (.slice a m cap)) ∧ Bkv W3 (w.heap.size + 1) 0 (.slice none 0 0) ∧ Below w.heap.size w W3) := fun W3 hb => by
    have hb' : Below W2.heap.size W2 W3 := B2d.out.trans hb
    have := Q1.out.below hb'
    exact ⟨⟨this.c0, this.c1⟩, Q2.out.below hb', B2.out.trans (hb'.mono B2.out.size)⟩
  have HQ2 := Q2
  clear hW1 hW2 Q1 Q2
  have hS : W2.drew.cell? ⟨w.heap.size, 0, none⟩ = some (.int .i64 k) ∧ W2.drew.cell? ⟨w.heap.size, 1, none⟩ = some (.slice a m cap) := ⟨q0, q1⟩
  go_region_held3 (fun w' => w'.cell? ⟨w.heap.size, 0, none⟩ = some (.int .i64 k) ∧ w'.cell? ⟨w.heap.size, 1, none⟩ = some (.slice a m cap)) (first | go_keep | exact hS3)
    (first
      | (go_at_call 73; refine (HC.out _ B2d.out).mono ?_; rintro e W3 ⟨rv, rfl, hN3, hB3⟩; obtain ⟨hS3, hQ3, hb3⟩ := HST.out W3 hB3; have HN3 := hideP hN3; have HQ3 := hideP hQ3; have HB3 := hideP hb3; have r0 := hQ3.c0; have r1 := hQ3.c1; have f0 := hQ3.fz 0; have f1 := hQ3.fz 1; obtain ⟨ra, rm, rc, rfl⟩ : ∃ a m cap, rv = .slice a m cap := by { obtain ⟨a, c, e, _⟩ := hN3.rd; exact ⟨_, _, _, e⟩ }; clear hN3 hQ3 hb3 hB3))
  rename_i hHeld
  clear hHeld
  obtain ⟨W4, hW4⟩ : ∃ W4, Hid ((W3.setCell ⟨w.heap.size + 1, 0, none⟩ (.int .i64 k)).setCell ⟨w.heap.size + 1, 1, none⟩ (.slice ra rm rc) = W4) := ⟨_, rfl⟩
  rw [hW4.out]
  have Q4 : Hid (Bkv W4 (w.heap.size + 1) k (.slice ra rm rc)) := by rw [← hW4.out]; exact HQ3.out.put k _
  have T4 : Hid (Tch (fun j => j = w.heap.size + 1) W3 W4) := by rw [← hW4.out]; exact (tch_set W3 _ 0 _).trans (tch_set _ _ 1 _) (fun _ _ e => e)
  have hsz : w.heap.size + 2 ≤ W2.heap.size := by
    have := B2.out.size
    have h1 := Array.getElem?_eq_some_iff.1 HQ2.out
    exact h1.1
  have N4 : Hid (Nw w.heap.size W4 (.slice ra rm rc) ys) := by
    have h1 : Nw W2.heap.size W4 (.slice ra rm rc) ys := HN3.out.tch T4.out (fun j hj e => by have h2 : W2.heap.size ≤ j := HN3.out.new j hj; omega)
    exact ⟨h1.rd, h1.fz, fun j hj => by have := h1.new j hj; omega⟩
  have B4 : Hid (Below w.heap.size w W4) := HB3.out.trans (T4.out.below HB3.out.size (fun j e => by omega))
  have x0 := Q4.out.c0
  have x1 := Q4.out.c1
  clear hW4 HN3 HQ3 HB3 r0 r1 f0 f1 hS3 hS q0 q1 T4
  have HLD := hideP Q4.out.load
  go_wp2_with fail
  refine bodyPost_ret (v := blk k (.slice ra rm rc)) (results_atB (p := 2) (ty := 40) rfl _ _ _ (w.heap.size + 1) _ rfl HLD.out) rfl ?_
  exact ⟨_, rfl, N4.out, B4.out⟩
end Go.Proofs.Ytgpaklifjonlkaa
/-
  A sector read, and written, as a block; a new cache; what is clean.
-/
namespace Go.Proofs.Ytgpaklifjonlkaa
open Go.RowKit Go.Maps
set_option linter.unusedVariables false
set_option linter.unusedSimpArgs false
set_option maxRecDepth 100000

theorem Dk.has_ok {S : Nat → Prop} {w : World} {d : Nat} {D : DS} (h : Dk S w d D) {i : Nat} (hi : i < D.L.length) : (D.has i).length = 256 ∧ By (D.has i) := by
  obtain ⟨lb, vb, lc, g, h⟩ := h
  exact DS.has_ok h hi

set_option maxHeartbeats 400000 in
theorem read_any {S : Nat → Prop} {c d : Nat} {D : DS} (n : Nat) (w : World) (hc : w.cell? ⟨c, 0, none⟩ = some (dp d)) (hd : Dk S w d D) (hn : n < D.L.length) :
    Calls Try.prog 50 #[cp c, .int .i64 (n : Int)] w fun e w' => GetR (n : Int) (D.has n) w e w' := by
  have hcl := World.block_lt_of_cell? w ⟨c, 0, none⟩ hc
  obtain ⟨W1, hW1⟩ : ∃ W1, w.alloc (.cells #[.int .i64 0, .slice none 0 0] 40) = W1 := ⟨_, rfl⟩
  have B1 : Hid (Below w.heap.size w W1) := by rw [← hW1]; exact (Below.refl _ _).alloc (Nat.le_refl _) _
  have Q1 : Hid (Bkv W1 w.heap.size 0 (.slice none 0 0)) := by rw [← hW1]; exact bkv_new w _ _
  have c1 : W1.cell? ⟨c, 0, none⟩ = some (dp d) := by rw [Tch.cell (Tch.of_below (S := fun _ => False) B1.out) (p := ⟨c, 0, none⟩) hcl (fun e => e)]; exact hc
  have HRD := hideP (read_all (n : Int) W1 (hd.below B1.out))
  have e1 : dco D (n : Int) = 0 := by unfold dco; rw [if_neg (by omega)]
  have e2 : dhs D (n : Int) = D.has n := by unfold dhs; rw [if_neg (by omega)]; rfl
  rw [e1, e2] at HRD
  have HH : Hid (By (D.has n)) := (hd.has_ok hn).2
  obtain ⟨xs, hxs⟩ : ∃ xs, Hid (D.has n = xs) := ⟨_, rfl⟩
  rw [hxs.out] at HRD HH ⊢
  clear hd hn e1 e2 hc hcl
  go_enter Try.func50, Try.ntmps50
  go_wp2_with fail
  refine HRD.out.mono ?_
  rintro e w2 ⟨v, rfl, hz2, hb2, _⟩
  have B2 : Hid (Below w.heap.size w w2) := B1.out.trans (hb2.mono B1.out.size)
  have Q2 : Hid (Bkv w2 w.heap.size 0 (.slice none 0 0)) := Q1.out.below hb2
  have HG := hideP (get_any (n : Int) v xs w2 hz2.rd HH.out)
  obtain ⟨a, m, cap, rfl⟩ : ∃ a m cap, v = .slice a m cap := by obtain ⟨a, c, e, _⟩ := hz2.rd; exact ⟨_, _, _, e⟩
  clear hz2 hb2 Q1 B1 hW1 c1 HRD
  go_wp2_with fail
  refine HG.out.mono ?_
  rintro e w3 ⟨u, rfl, hr3, hb3, hn3⟩
  obtain ⟨k, hk⟩ : ∃ k, (getB (n : Int) xs).1 = k := ⟨_, rfl⟩
  obtain ⟨ec, hec⟩ : ∃ ec, getE (n : Int) xs = ec := ⟨_, rfl⟩
  obtain ⟨ys, hys⟩ : ∃ ys, (getB (n : Int) xs).2 = ys := ⟨_, rfl⟩
  rw [hk, hec]
  rw [hys] at hr3
  have HE : Hid (getB (n : Int) xs = (k, ys) ∧ getE (n : Int) xs = ec) := ⟨by rw [← hk, ← hys], hec⟩
  have B3 : Hid (Below w.heap.size w w3) := B2.out.trans (hb3.mono B2.out.size)
  have Q3 : Hid (Bkv w3 w.heap.size 0 (.slice none 0 0)) := Q2.out.below hb3
  have R3 : Hid (Rd .u8 w3 u ys) := hr3
  have N3 : Hid (∀ j, u.ownBlock = some j → w2.heap.size ≤ j) := hn3
  obtain ⟨a', m', cap', rfl⟩ : ∃ a m cap, u = .slice a m cap := by obtain ⟨a, c, e, _⟩ := hr3; exact ⟨_, _, _, e⟩
  have q0 := Q3.out.c0
  have q1 := Q3.out.c1
  have f0 := Q3.out.fz 0
  have f1 := Q3.out.fz 1
  obtain ⟨W4, hW4⟩ : ∃ W4, (w3.setCell ⟨w.heap.size, 0, none⟩ (.int .i64 k)).setCell ⟨w.heap.size, 1, none⟩ (.slice a' m' cap') = W4 := ⟨_, rfl⟩
  have Q4 : Hid (Bkv W4 w.heap.size k (.slice a' m' cap')) := by rw [← hW4]; exact Q3.out.put k _
  have T4 : Hid (Tch (fun j => j = w.heap.size) w3 W4) := by rw [← hW4]; exact (tch_set w3 _ 0 _).trans (tch_set _ _ 1 _) (fun _ _ e => e)
  have B4 : Hid (Below w.heap.size w W4) := B3.out.trans (T4.out.below B3.out.size (fun j e => by omega))
  have HLT : Hid (w.heap.size < w2.heap.size) := Q2.out.lt
  have R4 : Hid (Rd .u8 W4 (.slice a' m' cap') ys) := R3.out.tch T4.out (fun j hj e => by have := N3.out j hj; have := HLT.out; omega)
  have HLD := hideP Q4.out.load
  clear hr3 hb3 hn3 hk hec hys HG Q2 B2 Q3 B3 R3 T4
  unfold blk
  go_wp2_with fail
  refine bodyPost_ret (v := .tuple #[blk k (.slice a' m' cap'), .int .i64 ec]) (results_cellT (p := 4) (ty := 40) rfl _ _ _ w.heap.size _ _ rfl HLD.out rfl) rfl ?_
  refine ⟨_, by rw [HE.out.1, HE.out.2], by rw [HE.out.1]; exact R4.out, B4.out, fun j hj => Nat.le_trans (Nat.le_of_lt HLT.out) (N3.out j hj)⟩

set_option maxHeartbeats 400000 in
theorem writeK_any {S : Nat → Prop} {c d : Nat} {D : DS} (n : Nat) (k : Int) (v : Value) (ys : List Int) (w : World) (hc : w.cell? ⟨c, 0, none⟩ = some (dp d)) (hd : Dk S w d D) (hn : n < D.L.length) (hm : mayK (n : Int) k ys.length = true) (hr : Rd .u8 w v ys) (hb : By ys) (hcS : ¬ S c) (hV : ∀ i, (D.V i).length < 274877906943) :
    Calls Try.prog 48 #[cp c, .int .i64 (n : Int), blk k v] w fun e w' => e = .returned (.int .i64 0) ∧ DkTo S w w' d (D.wr n (sec (n : Int) k ys)) := by
  have hcl := World.block_lt_of_cell? w ⟨c, 0, none⟩ hc
  obtain ⟨W1, hW1⟩ : ∃ W1, w.alloc (.cells #[.int .i64 k, v] 40) = W1 := ⟨_, rfl⟩
  have B1 : Hid (Below w.heap.size w W1) := by rw [← hW1]; exact (Below.refl _ _).alloc (Nat.le_refl _) _
  have Q1 : Hid (Bkv W1 w.heap.size k v) := by rw [← hW1]; exact bkv_new w _ _
  have HP := hideP (put_any (n : Int) k v ys W1 (hr.below B1.out) hb)
  have HC : Hid (∀ W, Below w.heap.size w W → W.cell? ⟨c, 0, none⟩ = some (dp d)) := fun W hb => by rw [Tch.cell (Tch.of_below (S := fun _ => False) hb) (p := ⟨c, 0, none⟩) hcl (fun e => e)]; exact hc
  have HD : Hid (Dk S w d D) := hd
  obtain ⟨m1, m2, m3, m4, m5⟩ := mayK_iff.1 hm
  have HM : Hid (mayK (n : Int) k ys.length = true ∧ (sec (n : Int) k ys).length = 256 ∧ By (sec (n : Int) k ys) ∧ n < D.L.length ∧ ∀ i, (D.V i).length < 274877906943) := ⟨hm, sec_len _ _ (by omega), sec_by ⟨m1, m2⟩ ⟨m3, m4⟩ hb (by omega), hn, hV⟩
  have q0 := Q1.out.c0
  have q1 := Q1.out.c1
  obtain ⟨a, m, cap, rfl⟩ : ∃ a m cap, v = .slice a m cap := by obtain ⟨a, c, e, _⟩ := hr; exact ⟨_, _, _, e⟩
  clear hr hb hm hn hV hd hc hcl m1 m2 m3 m4 m5
  unfold blk at HP ⊢
  go_enter Try.func48, Try.ntmps48
  go_wp2_with fail
  refine HP.out.mono ?_
  rintro e w2 ⟨u, ec, rfl, hb2, hn2, hor⟩
  rcases hor with ⟨_, rfl, hw2, g, rfl⟩ | ⟨h0, _⟩
  · have B2 : Hid (Below w.heap.size w w2) := B1.out.trans (hb2.mono B1.out.size)
    have c2 := HC.out w2 B2.out
    have D2 : Hid (Dk S w2 d D) := HD.out.below B2.out
    have HW := hideP (write_all (n : Int) (.slice (some ⟨g, 0, none⟩) 256 256) (sec (n : Int) k ys) w2 D2.out hw2.rd HM.out.2.2.1 (fun j hj e => by
      have h1 := hn2 j hj
      have h2 := HD.out.slt j e
      have h3 := B1.out.size
      omega) HM.out.2.2.2.2)
    have e1 : wco D (n : Int) (sec (n : Int) k ys).length = 0 := by unfold wco; rw [if_neg (by have := HM.out.2.2.2.1; omega), if_pos HM.out.2.1]
    have e2 : wrr D (n : Int) (sec (n : Int) k ys) = D.wr n (sec (n : Int) k ys) := by unfold wrr; rw [if_neg (by have := HM.out.2.2.2.1; omega), if_pos HM.out.2.1]; rfl
    rw [e1, e2] at HW
    clear e1 e2 hb2 hn2 hw2 HP hW1 q0 q1 B1 Q1
    go_wp2_with fail
    refine HW.out.mono ?_
    rintro e w3 ⟨rfl, h3⟩
    have HR : Hid (DkTo S w w3 d (D.wr n (sec (n : Int) k ys))) := DkTo.trans D2.out (Tch.of_below B2.out) (fun k hk => .inl hk) h3
    clear h3 HW
    go_wp2_with fail
    go_ret
    exact ⟨rfl, HR.out⟩
  · rw [HM.out.1] at h0
    cases h0

theorem newK_bad (d : Nat) (room : Int) (w : World) (h : room < 1 ∨ 1024 < room) : Calls Try.prog 10 #[dp d, .int .i64 room] w fun e w' => e = .returned (.tuple #[.pointer none, .int .i64 1]) ∧ w' = w := by
  by_cases h1 : room < 1
  · clear h
    go_enter Try.func10, Try.ntmps10
    go_wp2_with fail
    go_ret2
    exact ⟨rfl, rfl⟩
  · have h2 : room > 1024 := by omega
    have h3 : decide (room < 1) = false := by rw [decide_eq_false_iff_not]; exact h1
    clear h h1
    go_enter Try.func10, Try.ntmps10
    go_wp2_with fail
    go_ret2
    exact ⟨rfl, rfl⟩

/-- An empty one. -/
def CS.new (room : Nat) : CS := ⟨room, fun _ => (0, []), [], []⟩

theorem newK_ok (d N room : Nat) (w : World) (h1 : 1 ≤ room) (h2 : room ≤ 1024) (hN : N ≤ 4096) : Calls Try.prog 10 #[dp d, .int .i64 (room : Int)] w fun e w' =>
    ∃ c X, e = .returned (.tuple #[cp c, .int .i64 0]) ∧ Ch X w' c d N (CS.new room) ∧ Below w.heap.size w w' ∧ ∀ k, X k → w.heap.size ≤ k := by
  have hmm := @run_makeMap Try.prog
  have ha : decide ((room : Int) < 1) = false := by rw [decide_eq_false_iff_not]; omega
  have hb : decide ((room : Int) > 1024) = false := by rw [decide_eq_false_iff_not]; omega
  have hb2 : decide ((1024 : Int) < (room : Int)) = false := by rw [decide_eq_false_iff_not]; omega
  have hb3 : decide (1024 < room) = false := by rw [decide_eq_false_iff_not]; omega
  go_enter Try.func10, Try.ntmps10
  go_wp2_with fail
  go_ret2
  have M1 : Mp (w.alloc (.map #[] 0)) w.heap.size N (fun _ => none) := mp_of (World.ownsMap_made w _ _ _) (by rw [dm_empty (fun _ _ => rfl)])
  have hsz : (w.alloc (.map #[] 0)).heap.size = w.heap.size + 1 := by simp
  refine ⟨w.heap.size + 1, fun k => w.heap.size ≤ k ∧ k < w.heap.size + 2, by first | rfl | simp, ⟨w.heap.size, .slice none 0 0, fun _ => .slice none 0 0, ?_⟩, ?_, fun k hk => hk.1⟩
  · exact {
      n2 := hN
      box := by rw [← hsz]; exact heap_alloc_new _ _
      map := by
        refine Mp.congr (g := fun _ => none) (M1.tch (S := fun _ => False) (Tch.of_below ((Below.refl _ _).alloc (Nat.le_refl _) _)) (fun e => e)) (fun i _ => ?_)
        simp [kg, CS.new]
      ord := owns_nil _ _ _
      bod := fun n hn => by simp [CS.new] at hn
      bap := fun n hn => by simp [CS.new] at hn
      ok := ⟨h1, h2, List.Pairwise.nil, List.nodup_nil, fun n hn => by simp [CS.new] at hn, fun n hn => by simp [CS.new] at hn, fun n hn => by simp [CS.new] at hn, fun n hn => by simp [CS.new] at hn⟩
      xc := ⟨by omega, by omega⟩
      xm := ⟨by omega, by omega⟩
      xa := fun k hk => by cases hk
      xlt := fun k hk => by simp; exact hk.2 }
  · exact ((Below.refl _ _).alloc (Nat.le_refl _) _).alloc (by simp) _

/-- The clean ones' numbers. -/
theorem clean_any {X : Nat → Prop} {c d N : Nat} {s : CS} (w : World) (hC : Ch X w c d N s) :
    Calls Try.prog 15 #[cp c] w fun e w' => ∃ v, e = .returned v ∧ OwnsK w' v (s.c.map Int.ofNat) ∧ Below w.heap.size w w' ∧ ∀ k, v.ownBlock = some k → w.heap.size ≤ k := by
  obtain ⟨mb, av, V, h⟩ := hC
  have HC := hideP (cloneK_any av (s.c.map Int.ofNat) w h.ord.rd (by have := h.ok.cle; have := h.n2; simp; omega))
  have c3 := h.c3
  clear h
  go_enter Try.func15, Try.ntmps15
  go_wp2_with fail
  refine HC.out.mono ?_
  rintro e w' ⟨v, rfl, hq⟩
  have HQ := hideP hq
  clear hq
  go_wp2_with fail
  go_ret
  exact ⟨v, rfl, HQ.out⟩
end Go.Proofs.Ytgpaklifjonlkaa
