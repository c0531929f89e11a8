import Derived.Test.YtokkippjbagmkaaGreatGMBest
import Derived.Test.YtokkippjbagmkaaGreatGMCut
set_option maxRecDepth 100000
/-
  Find: the steps by which bytes are made.
-/
namespace Go.Proofs.YtokkippjbagmkaaGreat
open Go.RowKit Pl
set_option linter.unusedVariables false

/-- Behind so many rounds: the place, the literals since the last step, the steps. -/
def fst_ (ds : List Int) (W : Nat) : Nat → Nat × Nat × List Sq
  | 0 => (0, 0, [])
  | k + 1 =>
    if (fst_ ds W k).1 < ds.length then
      if (best ds W (fst_ ds W k).1).1 = 0 ∨ (best ds W (fst_ ds W k).1).1 < (best ds W ((fst_ ds W k).1 + 1)).1 then ((fst_ ds W k).1 + 1, (fst_ ds W k).2.1 + 1, (fst_ ds W k).2.2)
      else ((fst_ ds W k).1 + (best ds W (fst_ ds W k).1).1, 0, (fst_ ds W k).2.2 ++ [(((fst_ ds W k).2.1 : Int), ((best ds W (fst_ ds W k).1).1 : Int), ((best ds W (fst_ ds W k).1).2 : Int))])
    else fst_ ds W k

theorem best_le (ds : List Int) (W i : Nat) : (best ds W i).1 ≤ ds.length - i ∧ (best ds W i).2 ≤ i ∧ (best ds W i).1 ≤ 259 := by
  unfold best
  have h1 := bst_le ds i (min W i)
  have h2 := bst_dist ds i (min W i)
  unfold ml at h1
  omega

theorem fst_stay (ds : List Int) (W k : Nat) (h : ds.length ≤ (fst_ ds W k).1) : ∀ m, k ≤ m → fst_ ds W m = fst_ ds W k := by
  intro m hm
  induction m with
  | zero => obtain rfl : k = 0 := by omega
            rfl
  | succ m ih =>
    by_cases e : k = m + 1
    · rw [e]
    · have := ih (by omega)
      simp only [fst_]
      rw [this, if_neg (by omega)]

/-- The steps of bytes. -/
def steps (ds : List Int) (W : Nat) : List Sq := (fst_ ds W ds.length).2.2

theorem steps_of (ds : List Int) (W k : Nat) (h : ds.length ≤ (fst_ ds W k).1) (hk : k ≤ ds.length) : steps ds W = (fst_ ds W k).2.2 := by
  unfold steps
  rw [fst_stay ds W k h _ hk]

theorem fst_len (ds : List Int) (W : Nat) : ∀ k, (fst_ ds W k).2.2.length ≤ k
  | 0 => Nat.le_refl _
  | k + 1 => by
    have := fst_len ds W k
    simp only [fst_]
    split
    · split
      · simp only; omega
      · simp only [List.length_append, List.length_cons, List.length_nil]; omega
    · omega

def findR (ds : List Int) (win : Int) : Int × List Sq := if 65536 < ds.length ∨ win < 1 ∨ 65536 < win then (1, []) else (0, steps ds win.toNat)

def FPost (r : Int × List Sq) (w : World) (e : Ending) (w' : World) : Prop :=
  ∃ d, e = .returned (.tuple #[d, .int .i64 r.1]) ∧ Below w.heap.size w w' ∧ (∀ k, d.ownBlock = some k → w.heap.size ≤ k) ∧ OwnsS w' d r.2

theorem FPost.bad {E : Int} {w w' : World} (hb : Below w.heap.size w w') : FPost (E, []) w (.returned (.tuple #[.slice none 0 0, .int .i64 E])) w' :=
  ⟨_, rfl, hb, (fun k e => by cases e), ownsS_nil _⟩

theorem best_any (F G n b o c at_ : Nat) (win : Int) (W : Nat) (ds : List Int) (w : World) (H : Fnd w F G n b o c win ds at_) (D : Dt w b o n ds) (hbF : b ≠ F ∧ b ≠ G) (hn : n ≤ 65536) (hc : n ≤ c) (hc2 : c ≤ 9223372036854775807) (ha : at_ ≤ n) (hw0 : win = W) (hw1 : 1 ≤ W) (hw2 : W ≤ 65536) :
    Calls Tryz.prog 78 #[.pointer (some ⟨F, 0, none⟩), .int .i64 at_] w fun e w' => e = .returned (.agg #[.int .i64 ((best ds W at_).1 : Int), .int .i64 ((best ds W at_).2 : Int)]) ∧ Fnd w' F G n b o c win ds at_ ∧ Tch (fun j => j = F ∨ j = G) w w' := by
  by_cases h : at_ + 4 ≤ n
  · exact best_many F G n b o c at_ win W ds w H D hbF hn hc hc2 h hw0 hw1 hw2
  · exact best_few F G n b o c at_ win W ds w H D hn ha (by omega)

set_option maxHeartbeats 1000000 in
theorem find_bad (a : Option Addr) (n c : Nat) (win : Int) (w : World) (h : 65536 < n ∨ win < 1 ∨ 65536 < win) :
    Calls Tryz.prog 43 #[.slice a n c, .int .i64 win] w fun e w' => FPost (1, []) w e w' := by
  by_cases h1 : 65536 < n
  · have h1' : (65536 : Int) < (n : Int) := by omega
    clear h
    go_enter Tryz.func43, Tryz.ntmps43
    go_wp2_with fail
    go_ret2
    exact FPost.bad (Below.refl _ _)
  · have g1 : decide ((65536 : Int) < (n : Int)) = false := by rw [decide_eq_false_iff_not]; omega
    by_cases h2 : win < 1
    · clear h
      go_enter Tryz.func43, Tryz.ntmps43
      go_wp2_with fail
      go_ret2
      exact FPost.bad (Below.refl _ _)
    · have g2 : decide (win < 1) = false := by rw [decide_eq_false_iff_not]; omega
      have h3 : 65536 < win := by omega
      clear h
      go_enter Tryz.func43, Tryz.ntmps43
      go_wp2_with fail
      go_ret2
      exact FPost.bad (Below.refl _ _)

/-- What stands at a round of Find. -/
structure Fs (w wr : World) (F G B n b o c : Nat) (W : Nat) (ds : List Int) (k at_ lits : Nat) (v : Value) : Prop where
  fnd : Fnd wr F G n b o c W ds at_
  two : TwoM wr B (best ds W at_).1 (best ds W at_).2
  own : OwnsS wr v (fst_ ds W k).2.2
  bel : Below w.heap.size w wr
  nF : w.heap.size ≤ F
  nG : w.heap.size ≤ G
  nB : w.heap.size ≤ B
  nv : ∀ j, v.ownBlock = some j → w.heap.size ≤ j

theorem Fnd.blk {w : World} {F G n b o c : Nat} {win : Int} {ds : List Int} {at_ : Nat} (H : Fnd w F G n b o c win ds at_) : ∃ cs : Array Value, w.heap[F]? = some (.cells cs 140 (0, 0)) := by
  obtain ⟨k, h, ad, _, hF, _, _⟩ := H
  exact ⟨_, hF.blk⟩
theorem Fnd.blkG {w : World} {F G n b o c : Nat} {win : Int} {ds : List Int} {at_ : Nat} (H : Fnd w F G n b o c win ds at_) : ∃ cs : Array Value, w.heap[G]? = some (.cells cs 3 (0, 0)) := by
  obtain ⟨k, h, ad, _, hF, _, _⟩ := H
  exact block_of_ownsM (w := w) hF.own rfl
theorem Fnd.tch {S : Nat → Prop} {w w' : World} {F G n b o c : Nat} {win : Int} {ds : List Int} {at_ : Nat} (H : Fnd w F G n b o c win ds at_) (ht : Tch S w w') (hF : ¬ S F) (hG : ¬ S G) : Fnd w' F G n b o c win ds at_ := by
  obtain ⟨k, h, ad, hk, h1, h2, h3⟩ := H
  exact ⟨k, h, ad, hk, h1.tch ht hF hG, h2, h3⟩
theorem Fnd.below {w w' : World} {F G n b o c : Nat} {win : Int} {ds : List Int} {at_ : Nat} (H : Fnd w F G n b o c win ds at_) (hb : Below w.heap.size w w') : Fnd w' F G n b o c win ds at_ :=
  H.tch (S := fun _ => False) (Tch.of_below hb) (fun e => e) (fun e => e)
theorem Fnd.up {w : World} {F G n b o c : Nat} {win : Int} {ds : List Int} {i j : Nat} (H : Fnd w F G n b o c win ds i) (hij : i ≤ j) : Fnd w F G n b o c win ds j := by
  obtain ⟨k, h, ad, hk, h1, h2, h3⟩ := H
  exact ⟨k, h, ad, by omega, h1, h2, h3⟩

/-- Blocks of unlike types are unlike. -/
theorem blk_ne {w : World} {i j : Nat} {c d : Array Value} {s t : TypeId} (hi : w.heap[i]? = some (.cells c s (0, 0))) (hj : w.heap[j]? = some (.cells d t (0, 0))) (h : s ≠ t) : i ≠ j := by
  intro e
  subst e
  rw [hi] at hj
  simp at hj
  exact h hj.2
theorem own_ne {w : World} {v : Value} {ps : List Sq} (h : OwnsS w v ps) {b : Nat} {cs : Array Value} {t : TypeId} (hb : w.heap[b]? = some (.cells cs t (0, 0))) (ht : t ≠ 72) : v.ownBlock ≠ some b := fun e => h.ne_blk hb ht e rfl
end Go.Proofs.YtokkippjbagmkaaGreat

/-
  Find walked.
-/
namespace Go.Proofs.YtokkippjbagmkaaGreat
open Go.RowKit Pl
set_option linter.unusedVariables false

/-- The next place's match takes the variable's place. -/
theorem fs_next {w w4 : World} {F G B n b o c W k at_ lits : Nat} {ds : List Int} {v : Value} {x y x2 y2 : Nat} (F4 : Fnd w4 F G n b o c W ds at_) (T4 : TwoM w4 B x y) (O4 : OwnsS w4 v (fst_ ds W k).2.2) (B4 : Below w.heap.size w w4)
    (hF : w.heap.size ≤ F) (hG : w.heap.size ≤ G) (hB : w.heap.size ≤ B) (hv : ∀ j, v.ownBlock = some j → w.heap.size ≤ j) (hx : (best ds W at_).1 = x2) (hy : (best ds W at_).2 = y2) {W6 : World}
    (hW : Tch (fun j => j = B) w4 W6) (hT : TwoM W6 (W6.heap.size - 1) x2 y2) : Fs w W6 F G (W6.heap.size - 1) n b o c W ds k at_ lits v := by
  obtain ⟨cF, bF⟩ := F4.blk
  obtain ⟨cG, bG⟩ := F4.blkG
  refine ⟨F4.tch hW (blk_ne bF T4 (by decide)) (blk_ne bG T4 (by decide)), by rw [hx, hy]; exact hT, O4.tch hW (fun j hj e => by rw [e] at hj; exact own_ne O4 T4 (by decide) hj), B4.trans (hW.below B4.size (fun k e => by rw [e]; exact hB)), hF, hG, ?_, hv⟩
  have h1 := B4.size
  have h2 := hW.size
  have h3 := hT.lt
  have h4 := T4.lt
  have h5 : B < W6.heap.size := by omega
  omega

theorem tch2 (w : World) (b : Nat) (u v : Value) : Tch (fun k => k = b) w ((w.setCell ⟨b, 0, none⟩ u).setCell ⟨b, 1, none⟩ v) := (tch1 w b 0 u).trans (tch1 _ b 1 v) (fun _ _ e => e)

set_option maxRecDepth 100000 in
set_option maxHeartbeats 2000000 in
theorem find_good (n b o c : Nat) (W : Nat) (ds : List Int) (w : World) (D : Dt w b o n ds) (h0 : 0 < n) (hn : n ≤ 65536) (hc : n ≤ c) (hc2 : c ≤ 9223372036854775807) (hw1 : 1 ≤ W) (hw2 : W ≤ 65536) :
    Calls Tryz.prog 43 #[.slice (some ⟨b, o, none⟩) n c, .int .i64 W] w fun e w' => FPost (0, steps ds W) w e w' := by
  have HD : Hid (Dt w b o n ds) := D
  have hbw : b < w.heap.size := World.block_lt_of_cell? w ⟨b, o + 0, none⟩ (D.2.2 0 h0)
  have g1 : decide ((65536 : Int) < (n : Int)) = false := by rw [decide_eq_false_iff_not]; omega
  have g2 : decide ((W : Int) < 1) = false := by rw [decide_eq_false_iff_not]; omega
  have g3 : decide ((65536 : Int) < (W : Int)) = false := by rw [decide_eq_false_iff_not]; omega
  clear D
  go_enter Tryz.func43, Tryz.ntmps43
  go_wp2_with fail
  refine (newFinder_any _ n c W w hn).mono ?_
  rintro e w2 ⟨F, G, rfl, hF, hb2, hF1, hG1⟩
  have F2 : Hid (Fnd w2 F G n b o c W ds 0) := ⟨0, _, _, Nat.le_refl _, hF, ⟨fun s _ => rfl, fun p hp => by omega⟩, by simp⟩
  have B2 : Hid (Below w.heap.size w w2) := hb2
  have HBF : Hid (b ≠ F ∧ b ≠ G) := ⟨by omega, by omega⟩
  have HB0 : Hid (Calls Tryz.prog 78 #[.pointer (some ⟨F, 0, none⟩), .int .i64 ((0 : Nat) : Int)] w2 fun e w' => e = .returned (.agg #[.int .i64 ((best ds W 0).1 : Int), .int .i64 ((best ds W 0).2 : Int)]) ∧ Fnd w' F G n b o c W ds 0 ∧ Tch (fun j => j = F ∨ j = G) w2 w') :=
    best_any F G n b o c 0 W W ds w2 F2.out (HD.out.below hb2) HBF.out hn hc hc2 (Nat.zero_le _) rfl hw1 hw2
  clear hF hb2
  go_wp2_with fail
  refine HB0.out.mono ?_
  clear HB0
  rintro e w3 ⟨rfl, hF3, ht3⟩
  have F3 : Hid (Fnd w3 F G n b o c W ds 0) := hF3
  have B3 : Hid (Below w.heap.size w w3) := B2.out.trans (ht3.below B2.out.size (fun k e => by rcases e with e | e <;> omega))
  obtain ⟨x, hx⟩ : ∃ x : Nat, Hid ((best ds W 0).1 = x) := ⟨_, rfl⟩
  obtain ⟨y, hy⟩ : ∃ y : Nat, Hid ((best ds W 0).2 = y) := ⟨_, rfl⟩
  rw [hx.out, hy.out]
  clear hF3 ht3 F2 B2
  go_wp2_with fail
  have hinit : Fs w (w3.alloc (.cells #[.int .i64 (x : Int), .int .i64 (y : Int)] 103)) F G w3.heap.size n b o c W ds 0 0 0 (.slice none 0 0) := by
    have ba : Below w3.heap.size w3 (w3.alloc (.cells #[.int .i64 (x : Int), .int .i64 (y : Int)] 103)) := (Below.refl _ _).alloc (Nat.le_refl _) _
    refine ⟨F3.out.below ba, ?_, ownsS_nil _, B3.out.trans (ba.mono B3.out.size), hF1, hG1, B3.out.size, fun j e => by cases e⟩
    rw [hx.out, hy.out]
    exact two_new w3 x y
  have HI : Hid (Fs w (w3.alloc (.cells #[.int .i64 (x : Int), .int .i64 (y : Int)] 103)) F G w3.heap.size n b o c W ds 0 0 0 (.slice none 0 0)) := hinit
  have hln : n = ds.length := HD.out.1
  have HLN : Hid (n = ds.length) := hln
  clear hinit F3 B3 hln
  go_loopw [7, 8, 9, 10] (fun v l a p wr => ∃ (k at_ lits B : Nat), k ≤ at_ ∧ at_ ≤ n ∧ lits ≤ at_ ∧ l = .int .i64 lits ∧ a = .int .i64 at_ ∧ p = .pointer (some ⟨B, 0, none⟩) ∧ Hid ((fst_ ds W k).1 = at_ ∧ (fst_ ds W k).2.1 = lits) ∧ Hid (Fs w wr F G B n b o c W ds k at_ lits v)) (fun _ _ a _ _ => n - (intOf a).toNat)
  case atStart => exact ⟨0, 0, 0, w3.heap.size, Nat.le_refl _, Nat.zero_le _, Nat.le_refl _, rfl, rfl, rfl, ⟨rfl, rfl⟩, HI⟩
  case round =>
    clear HI
    obtain ⟨k, at_, lits, B, hka, hat, hlit, rfl, rfl, rfl, HST, HFS⟩ := hrel
    by_cases hlt : at_ < n
    · obtain ⟨x, hx⟩ : ∃ x : Nat, Hid ((best ds W at_).1 = x) := ⟨_, rfl⟩
      obtain ⟨y, hy⟩ : ∃ y : Nat, Hid ((best ds W at_).2 = y) := ⟨_, rfl⟩
      obtain ⟨x2, hx2⟩ : ∃ x : Nat, Hid ((best ds W (at_ + 1)).1 = x) := ⟨_, rfl⟩
      obtain ⟨y2, hy2⟩ : ∃ y : Nat, Hid ((best ds W (at_ + 1)).2 = y) := ⟨_, rfl⟩
      have hxb := best_le ds W at_
      rw [hx.out, hy.out, ← HLN.out] at hxb
      have hxb2 := best_le ds W (at_ + 1)
      rw [hx2.out, hy2.out, ← HLN.out] at hxb2
      have HB1 : Hid (Calls Tryz.prog 78 #[.pointer (some ⟨F, 0, none⟩), .int .i64 ((at_ : Int) + 1)] wr fun e w' => e = .returned (.agg #[.int .i64 (x2 : Int), .int .i64 (y2 : Int)]) ∧ Fnd w' F G n b o c W ds (at_ + 1) ∧ Tch (fun j => j = F ∨ j = G) wr w') := by
        have := best_any F G n b o c (at_ + 1) W W ds wr (HFS.out.fnd.up (by omega)) (HD.out.below HFS.out.bel) HBF.out hn hc hc2 (by omega) rfl hw1 hw2
        rw [hx2.out, hy2.out] at this
        push_cast at this
        exact this
      go_wp2_with fail
      refine HB1.out.mono ?_
      clear HB1
      rintro e w4 ⟨rfl, hF4, ht4⟩
      have F4 : Hid (Fnd w4 F G n b o c W ds (at_ + 1)) := hF4
      have B4 : Hid (Below w.heap.size w w4) := HFS.out.bel.trans (ht4.below HFS.out.bel.size (fun k e => by rcases e with e | e <;> omega))
      obtain ⟨cF, bF⟩ := HFS.out.fnd.blk
      obtain ⟨cG, bG⟩ := HFS.out.fnd.blkG
      have T4 : Hid (TwoM w4 B x y) := by
        have := HFS.out.two
        rw [hx.out, hy.out] at this
        exact this.tch ht4 (fun e => by
          rcases e with e | e
          · exact blk_ne HFS.out.two bF (by decide) e
          · exact blk_ne HFS.out.two bG (by decide) e)
      have O4 : Hid (OwnsS w4 u7 (fst_ ds W k).2.2) := HFS.out.own.tch ht4 (fun j hj e => by
          rcases e with e | e
          · rw [e] at hj; exact own_ne HFS.out.own bF (by decide) hj
          · rw [e] at hj; exact own_ne HFS.out.own bG (by decide) hj)
      have hBl : B < w4.heap.size := T4.out.lt
      have HNB : Hid (w.heap.size ≤ B) := HFS.out.nB
      have HNV : Hid (∀ j, u7.ownBlock = some j → w.heap.size ≤ j) := HFS.out.nv
      have HLEN : Hid ((fst_ ds W k).2.2.length ≤ k) := fst_len ds W k
      have c0 := T4.out.c0
      have c1 := T4.out.c1
      have z0 := T4.out.fz 0
      have z1 := T4.out.fz 1
      clear hF4 ht4 bF bG HFS
      by_cases hlitc : x = 0 ∨ x < x2
      · have HST2 : Hid (fst_ ds W (k + 1) = (at_ + 1, lits + 1, (fst_ ds W k).2.2)) := by
          show _ = _
          simp only [fst_]
          rw [HST.out.1, HST.out.2, hx.out, hx2.out, if_pos (by rw [← HLN.out]; exact hlt), if_pos hlitc]
        have HW6 : Hid (Fs w ((((w4.setCell ⟨B, 0, none⟩ (.int .i64 (x2 : Int))).setCell ⟨B, 1, none⟩ (.int .i64 (y2 : Int))).alloc (.cells #[.int .i64 (x2 : Int), .int .i64 (y2 : Int)] 103)).alloc (.cells #[.int .i64 (x2 : Int), .int .i64 (y2 : Int)] 103)) F G (w4.heap.size + 1) n b o c W ds (k + 1) (at_ + 1) (lits + 1) u7) := by
          have hO : OwnsS w4 u7 (fst_ ds W (k + 1)).2.2 := by rw [HST2.out]; exact O4.out
          have h2 := two_new (((w4.setCell ⟨B, 0, none⟩ (.int .i64 (x2 : Int))).setCell ⟨B, 1, none⟩ (.int .i64 (y2 : Int))).alloc (.cells #[.int .i64 (x2 : Int), .int .i64 (y2 : Int)] 103)) x2 y2
          have h3 : (((w4.setCell ⟨B, 0, none⟩ (.int .i64 (x2 : Int))).setCell ⟨B, 1, none⟩ (.int .i64 (y2 : Int))).alloc (.cells #[.int .i64 (x2 : Int), .int .i64 (y2 : Int)] 103)).heap.size = w4.heap.size + 1 := by simp
          rw [h3] at h2
          have := fs_next (lits := lits + 1) F4.out T4.out hO B4.out hF1 hG1 HNB.out HNV.out hx2.out hy2.out (((tch2 w4 B (.int .i64 (x2 : Int)) (.int .i64 (y2 : Int))).alloc (.cells #[.int .i64 (x2 : Int), .int .i64 (y2 : Int)] 103)).alloc (.cells #[.int .i64 (x2 : Int), .int .i64 (y2 : Int)] 103)) (by simp only [World.size_alloc, h3, Nat.add_sub_cancel]; exact h2)
          simp only [World.size_alloc, h3, Nat.add_sub_cancel] at this
          exact this
        have HS3 : Hid ((fst_ ds W (k + 1)).1 = at_ + 1 ∧ (fst_ ds W (k + 1)).2.1 = lits + 1) := ⟨by rw [HST2.out], by rw [HST2.out]⟩
        by_cases hx0 : x = 0
        · have g4 : ((x : Int) == 0) = true := by rw [beq_iff_eq]; omega
          clear hlitc hx0
          go_wp2_with fail
          exact ⟨⟨k + 1, at_ + 1, lits + 1, w4.heap.size + 1, by omega, by omega, by omega, by push_cast; rfl, by push_cast; rfl, rfl, HS3, HW6⟩, by simp [intOf]; omega⟩
        · have g4 : ((x : Int) == 0) = false := by rw [beq_eq_false_iff_ne]; omega
          have g5 : (x : Int) < (x2 : Int) := by omega
          clear hlitc hx0
          go_wp2_with fail
          exact ⟨⟨k + 1, at_ + 1, lits + 1, w4.heap.size + 1, by omega, by omega, by omega, by push_cast; rfl, by push_cast; rfl, rfl, HS3, HW6⟩, by simp [intOf]; omega⟩
      · have hx1 : 0 < x := by omega
        have g4 : ((x : Int) == 0) = false := by rw [beq_eq_false_iff_ne]; omega
        have g5 : decide (x < x2) = false := by rw [decide_eq_false_iff_not]; omega
        have g6 : x2 ≤ x := by omega
        have HST2 : Hid (fst_ ds W (k + 1) = (at_ + x, 0, (fst_ ds W k).2.2 ++ [((lits : Int), (x : Int), (y : Int))])) := by
          show _ = _
          simp only [fst_]
          rw [HST.out.1, HST.out.2, hx.out, hy.out, hx2.out, if_pos (by rw [← HLN.out]; exact hlt), if_neg hlitc]
        clear hlitc
        obtain ⟨wA, hwA⟩ : ∃ wA, Hid (w4.alloc (.cells #[.int .i64 (x2 : Int), .int .i64 (y2 : Int)] 103) = wA) := ⟨_, rfl⟩
        have bA : Below w4.heap.size w4 wA := by rw [← hwA.out]; exact (Below.refl _ _).alloc (Nat.le_refl _) _
        have FA : Hid (Fnd wA F G n b o c W ds (at_ + 1)) := F4.out.below bA
        have TA : Hid (TwoM wA B x y) := T4.out.below bA
        have OA : Hid (OwnsS wA u7 (fst_ ds W k).2.2) := O4.out.below bA
        have BA : Hid (Below w.heap.size w wA) := B4.out.trans (bA.mono B4.out.size)
        clear bA
        rw [← hwA.out] at FA TA OA BA
        go_wp2_with (at_builtin; refine wpList_pushS (w4.alloc (.cells #[.int .i64 (x2 : Int), .int .i64 (y2 : Int)] 103)) rfl (.tmp 51) (.tmp 58) rfl u7 (fst_ ds W k).2.2 rfl OA.out ((lits : Int), (x : Int), (y : Int)) (by show Value.slice (some ⟨w4.heap.size + 1, 0, none⟩) 1 1 = _; rw [World.size_alloc]) (by have := HLEN.out; omega) ?_)
        intro v5 w5 ho5 hg5
        rw [hwA.out] at FA TA OA BA hg5
        obtain ⟨cF, bF⟩ := FA.out.blk
        obtain ⟨cG, bG⟩ := FA.out.blkG
        have F5 : Hid (Fnd w5 F G n b o c W ds (at_ + x)) := (FA.out.tch hg5.tch (own_ne OA.out bF (by decide)) (own_ne OA.out bG (by decide))).up (by omega)
        have T5 : Hid (TwoM w5 B x y) := TA.out.tch hg5.tch (own_ne OA.out TA.out (by decide))
        obtain ⟨b5, n5⟩ : Below w.heap.size w w5 ∧ ∀ j, v5.ownBlock = some j → w.heap.size ≤ j := hg5.onto BA.out HNV.out
        have B5 : Hid (Below w.heap.size w w5) := b5
        have N5 : Hid (∀ j, v5.ownBlock = some j → w.heap.size ≤ j) := n5
        have O5 : Hid (OwnsS w5 v5 (fst_ ds W (k + 1)).2.2) := by show OwnsS _ _ _; rw [HST2.out]; exact ho5
        obtain ⟨x3, hx3⟩ : ∃ q : Nat, Hid ((best ds W (at_ + x)).1 = q) := ⟨_, rfl⟩
        obtain ⟨y3, hy3⟩ : ∃ q : Nat, Hid ((best ds W (at_ + x)).2 = q) := ⟨_, rfl⟩
        have HB5 : Hid (Calls Tryz.prog 78 #[.pointer (some ⟨F, 0, none⟩), .int .i64 ((at_ : Int) + (x : Int))] w5 fun e w' => e = .returned (.agg #[.int .i64 (x3 : Int), .int .i64 (y3 : Int)]) ∧ Fnd w' F G n b o c W ds (at_ + x) ∧ Tch (fun j => j = F ∨ j = G) w5 w') := by
          have := best_any F G n b o c (at_ + x) W W ds w5 F5.out (HD.out.below B5.out) HBF.out hn hc hc2 (by omega) rfl hw1 hw2
          rw [hx3.out, hy3.out] at this
          push_cast at this
          exact this
        have c0 := T5.out.c0
        have c1 := T5.out.c1
        clear FA TA OA BA bF bG hg5 ho5 b5 n5 F4 T4 O4 B4 z0 z1
        go_wp2_with fail
        refine HB5.out.mono ?_
        clear HB5
        rintro e w6 ⟨rfl, hF6, ht6⟩
        obtain ⟨cF, bF⟩ := F5.out.blk
        obtain ⟨cG, bG⟩ := F5.out.blkG
        have F6 : Hid (Fnd w6 F G n b o c W ds (at_ + x)) := hF6
        have T6 : Hid (TwoM w6 B x y) := T5.out.tch ht6 (fun e => by
          rcases e with e | e
          · exact blk_ne T5.out bF (by decide) e
          · exact blk_ne T5.out bG (by decide) e)
        have O6 : Hid (OwnsS w6 v5 (fst_ ds W (k + 1)).2.2) := O5.out.tch ht6 (fun j hj e => by
          rcases e with e | e
          · rw [e] at hj; exact own_ne O5.out bF (by decide) hj
          · rw [e] at hj; exact own_ne O5.out bG (by decide) hj)
        have B6 : Hid (Below w.heap.size w w6) := B5.out.trans (ht6.below B5.out.size (fun k e => by rcases e with e | e <;> omega))
        have HW6 : Hid (Fs w (((w6.setCell ⟨B, 0, none⟩ (.int .i64 (x3 : Int))).setCell ⟨B, 1, none⟩ (.int .i64 (y3 : Int))).alloc (.cells #[.int .i64 (x3 : Int), .int .i64 (y3 : Int)] 103)) F G w6.heap.size n b o c W ds (k + 1) (at_ + x) 0 v5) := by
          have h2 := two_new ((w6.setCell ⟨B, 0, none⟩ (.int .i64 (x3 : Int))).setCell ⟨B, 1, none⟩ (.int .i64 (y3 : Int))) x3 y3
          have h3 : ((w6.setCell ⟨B, 0, none⟩ (.int .i64 (x3 : Int))).setCell ⟨B, 1, none⟩ (.int .i64 (y3 : Int))).heap.size = w6.heap.size := by simp
          rw [h3] at h2
          have := fs_next (lits := 0) F6.out T6.out O6.out B6.out hF1 hG1 HNB.out N5.out hx3.out hy3.out ((tch2 w6 B (.int .i64 (x3 : Int)) (.int .i64 (y3 : Int))).alloc (.cells #[.int .i64 (x3 : Int), .int .i64 (y3 : Int)] 103)) (by simp only [World.size_alloc, h3, Nat.add_sub_cancel]; exact h2)
          simp only [World.size_alloc, h3, Nat.add_sub_cancel] at this
          exact this
        have HS3 : Hid ((fst_ ds W (k + 1)).1 = at_ + x ∧ (fst_ ds W (k + 1)).2.1 = 0) := ⟨by rw [HST2.out], by rw [HST2.out]⟩
        have d0 := T6.out.c0
        have d1 := T6.out.c1
        have z0 := T6.out.fz 0
        have z1 := T6.out.fz 1
        clear hF6 ht6 bF bG F5 T5 O5 B5 c0 c1
        go_wp2_with fail
        exact ⟨⟨k + 1, at_ + x, 0, w6.heap.size, by omega, by omega, by omega, rfl, by push_cast; rfl, rfl, HS3, HW6⟩, by simp [intOf]; omega⟩
    · obtain rfl : at_ = n := by omega
      have HEQ : Hid (steps ds W = (fst_ ds W k).2.2) := steps_of ds W k (by rw [HST.out.1, HLN.out]; exact Nat.le_refl _) (by rw [← HLN.out]; exact hka)
      go_wp2_with fail
      go_ret2
      exact ⟨_, rfl, HFS.out.bel, HFS.out.nv, by show OwnsS _ _ _; rw [HEQ.out]; exact HFS.out.own⟩

theorem find_empty (a : Option Addr) (c : Nat) (W : Nat) (w : World) (hw1 : 1 ≤ W) (hw2 : W ≤ 65536) :
    Calls Tryz.prog 43 #[.slice a 0 c, .int .i64 W] w fun e w' => FPost (0, []) w e w' := by
  have g2 : decide ((W : Int) < 1) = false := by rw [decide_eq_false_iff_not]; omega
  have g3 : decide ((65536 : Int) < (W : Int)) = false := by rw [decide_eq_false_iff_not]; omega
  go_enter Tryz.func43, Tryz.ntmps43
  go_wp2_with fail
  refine (newFinder_any _ 0 c W w (by omega)).mono ?_
  rintro e w2 ⟨F, G, rfl, hF, hb2, hF1, hG1⟩
  have B2 : Hid (Below w.heap.size w w2) := hb2
  have HB0 : Hid (Calls Tryz.prog 78 #[.pointer (some ⟨F, 0, none⟩), .int .i64 0] w2 fun e w' => e = .returned (.agg #[.int .i64 0, .int .i64 0]) ∧ Below w2.heap.size w2 w') := by
    have c0 := hF.c0
    have hFl : F < w2.heap.size := hF.lt
    clear hF hb2
    go_enter Tryz.func78, Tryz.ntmps78
    go_wp2_with fail
    go_step3
    go_wp2_with fail
    rw [Exit.noGoto_ret]
    refine bodyPost_ret (v := .agg #[.int .i64 0, .int .i64 0]) ?_ rfl ⟨rfl, ((Below.refl _ _).alloc (Nat.le_refl _) _).alloc (by simp) _⟩
    refine results_atM (p := 4) (ty := 103) rfl _ _ _ w2.heap.size _ rfl ?_
    exact ((two_new w2 0 0).below ((Below.refl _ _).alloc (Nat.le_refl _) _)).load
  clear hF hb2
  go_wp2_with fail
  refine HB0.out.mono ?_
  clear HB0
  rintro e w3 ⟨rfl, hb3⟩
  have B3 : Hid (Below w.heap.size w w3) := B2.out.trans (hb3.mono B2.out.size)
  clear hb3 B2
  go_wp2_with fail
  go_loopw [7, 9] (fun v a wr => v = .slice none 0 0 ∧ a = .int .i64 0 ∧ Hid (Below w.heap.size w wr)) (fun _ _ _ => 0)
  case atStart => exact ⟨rfl, rfl, B3.out.trans (((Below.refl _ _).alloc (Nat.le_refl _) _).mono B3.out.size)⟩
  case round =>
    obtain ⟨rfl, rfl, HB⟩ := hrel
    go_wp2_with fail
    go_ret2
    exact FPost.bad HB.out

/-- What Find answers. -/
theorem find_anyM (v : Value) (ds : List Int) (win : Int) (w : World) (h : Rd .u8 w v ds) (hy : By ds) :
    Calls Tryz.prog 43 #[v, .int .i64 win] w fun e w' => FPost (findR ds win) w e w' := by
  obtain ⟨a, c, rfl, h1, h2, _, h⟩ := h
  unfold maxLen at h2
  unfold findR
  by_cases hb : 65536 < ds.length ∨ win < 1 ∨ 65536 < win
  · rw [if_pos hb]
    exact find_bad a _ c win w hb
  · rw [if_neg hb]
    obtain ⟨W, rfl⟩ := Int.eq_ofNat_of_zero_le (show 0 ≤ win by omega)
    rw [Int.toNat_natCast]
    by_cases h0 : ds.length = 0
    · obtain rfl : ds = [] := List.eq_nil_of_length_eq_zero h0
      exact find_empty a c W w (by omega) (by omega)
    · rcases h with rfl | ⟨b, o, rfl, hc⟩
      · exact absurd rfl h0
      · exact find_good ds.length b o c W ds w ⟨rfl, hy, hc⟩ (by omega) (by omega) h1 (by omega) (by omega) (by omega)
end Go.Proofs.YtokkippjbagmkaaGreat
