/-
  Find: the steps by which bytes are made.
-/
import Derived.Test.YtghokdmfhifgjaaMBest
import Derived.Test.YtghokdmfhifgjaaMSeq
namespace Go.Proofs.Ytghokdmfhifgjaa
open Go.RowKit Pl
set_option linter.unusedVariables false

/-- Behind so many rounds: the place, the literals since the last step, the steps. -/
def fst_ (ds : List Int) (W : Nat) : Nat → Nat × Nat × List Sq
  | 0 => (0, 0, [])
  | k + 1 =>
    if (fst_ ds W k).1 < ds.length then
      if (best ds W (fst_ ds W k).1).1 = 0 ∨ (best ds W (fst_ ds W k).1).1 < (best ds W ((fst_ ds W k).1 + 1)).1 then ((fst_ ds W k).1 + 1, (fst_ ds W k).2.1 + 1, (fst_ ds W k).2.2)
      else ((fst_ ds W k).1 + (best ds W (fst_ ds W k).1).1, 0, (fst_ ds W k).2.2 ++ [(((fst_ ds W k).2.1 : Int), ((best ds W (fst_ ds W k).1).1 : Int), ((best ds W (fst_ ds W k).1).2 : Int))])
    else fst_ ds W k

theorem best_le (ds : List Int) (W i : Nat) : (best ds W i).1 ≤ ds.length - i ∧ (best ds W i).2 ≤ i ∧ (best ds W i).1 ≤ 259 := by
  unfold best
  have h1 := bst_le ds i (min W i)
  have h2 := bst_dist ds i (min W i)
  unfold ml at h1
  omega

theorem fst_stay (ds : List Int) (W k : Nat) (h : ds.length ≤ (fst_ ds W k).1) : ∀ m, k ≤ m → fst_ ds W m = fst_ ds W k := by
  intro m hm
  induction m with
  | zero => obtain rfl : k = 0 := by omega
            rfl
  | succ m ih =>
    by_cases e : k = m + 1
    · rw [e]
    · have := ih (by omega)
      simp only [fst_]
      rw [this, if_neg (by omega)]

/-- The steps of bytes. -/
def steps (ds : List Int) (W : Nat) : List Sq := (fst_ ds W ds.length).2.2

theorem steps_of (ds : List Int) (W k : Nat) (h : ds.length ≤ (fst_ ds W k).1) (hk : k ≤ ds.length) : steps ds W = (fst_ ds W k).2.2 := by
  unfold steps
  rw [fst_stay ds W k h _ hk]

theorem fst_len (ds : List Int) (W : Nat) : ∀ k, (fst_ ds W k).2.2.length ≤ k
  | 0 => Nat.le_refl _
  | k + 1 => by
    have := fst_len ds W k
    simp only [fst_]
    split
    · split
      · simp only; omega
      · simp only [List.length_append, List.length_cons, List.length_nil]; omega
    · omega

def findR (ds : List Int) (win : Int) : Int × List Sq := if 65536 < ds.length ∨ win < 1 ∨ 65536 < win then (1, []) else (0, steps ds win.toNat)

def FPost (r : Int × List Sq) (w : World) (e : Ending) (w' : World) : Prop :=
  ∃ d, e = .returned (.tuple #[d, .int .i64 r.1]) ∧ Below w.heap.size w w' ∧ (∀ k, d.ownBlock = some k → w.heap.size ≤ k) ∧ OwnsS w' d r.2

theorem FPost.bad {E : Int} {w w' : World} (hb : Below w.heap.size w w') : FPost (E, []) w (.returned (.tuple #[.slice none 0 0, .int .i64 E])) w' :=
  ⟨_, rfl, hb, (fun k e => by cases e), ownsS_nil _⟩

theorem best_any (F G n b o c at_ : Nat) (win : Int) (W : Nat) (ds : List Int) (w : World) (H : Fnd w F G n b o c win ds at_) (D : Dt w b o n ds) (hbF : b ≠ F ∧ b ≠ G) (hn : n ≤ 65536) (hc : n ≤ c) (hc2 : c ≤ 9223372036854775807) (ha : at_ ≤ n) (hw0 : win = W) (hw1 : 1 ≤ W) (hw2 : W ≤ 65536) :
    Calls Try.prog 20 #[.pointer (some ⟨F, 0, none⟩), .int .i64 at_] w fun e w' => e = .returned (.agg #[.int .i64 ((best ds W at_).1 : Int), .int .i64 ((best ds W at_).2 : Int)]) ∧ Fnd w' F G n b o c win ds at_ ∧ Tch (fun j => j = F ∨ j = G) w w' := by
  by_cases h : at_ + 4 ≤ n
  · exact best_many F G n b o c at_ win W ds w H D hbF hn hc hc2 h hw0 hw1 hw2
  · exact best_few F G n b o c at_ win W ds w H D hn ha (by omega)

set_option maxHeartbeats 1000000 in
theorem find_bad (a : Option Addr) (n c : Nat) (win : Int) (w : World) (h : 65536 < n ∨ win < 1 ∨ 65536 < win) :
    Calls Try.prog 9 #[.slice a n c, .int .i64 win] w fun e w' => FPost (1, []) w e w' := by
  by_cases h1 : 65536 < n
  · have h1' : (65536 : Int) < (n : Int) := by omega
    clear h
    go_enter Try.func9, Try.ntmps9
    go_wp2_with fail
    go_ret2
    exact FPost.bad (Below.refl _ _)
  · have g1 : decide ((65536 : Int) < (n : Int)) = false := by rw [decide_eq_false_iff_not]; omega
    by_cases h2 : win < 1
    · clear h
      go_enter Try.func9, Try.ntmps9
      go_wp2_with fail
      go_ret2
      exact FPost.bad (Below.refl _ _)
    · have g2 : decide (win < 1) = false := by rw [decide_eq_false_iff_not]; omega
      have h3 : 65536 < win := by omega
      clear h
      go_enter Try.func9, Try.ntmps9
      go_wp2_with fail
      go_ret2
      exact FPost.bad (Below.refl _ _)

/-- What stands at a round of Find. -/
structure Fs (w wr : World) (F G B n b o c : Nat) (W : Nat) (ds : List Int) (k at_ lits : Nat) (v : Value) : Prop where
  fnd : Fnd wr F G n b o c W ds at_
  two : Two wr B (best ds W at_).1 (best ds W at_).2
  own : OwnsS wr v (fst_ ds W k).2.2
  bel : Below w.heap.size w wr
  nF : w.heap.size ≤ F
  nG : w.heap.size ≤ G
  nB : w.heap.size ≤ B
  nv : ∀ j, v.ownBlock = some j → w.heap.size ≤ j

theorem Fnd.blk {w : World} {F G n b o c : Nat} {win : Int} {ds : List Int} {at_ : Nat} (H : Fnd w F G n b o c win ds at_) : ∃ cs : Array Value, w.heap[F]? = some (.cells cs 49 (0, 0)) := by
  obtain ⟨k, h, ad, _, hF, _, _⟩ := H
  exact ⟨_, hF.blk⟩
theorem Fnd.blkG {w : World} {F G n b o c : Nat} {win : Int} {ds : List Int} {at_ : Nat} (H : Fnd w F G n b o c win ds at_) : ∃ cs : Array Value, w.heap[G]? = some (.cells cs 3 (0, 0)) := by
  obtain ⟨k, h, ad, _, hF, _, _⟩ := H
  exact block_of_owns (w := w) hF.own rfl
theorem Fnd.tch {S : Nat → Prop} {w w' : World} {F G n b o c : Nat} {win : Int} {ds : List Int} {at_ : Nat} (H : Fnd w F G n b o c win ds at_) (ht : Tch S w w') (hF : ¬ S F) (hG : ¬ S G) : Fnd w' F G n b o c win ds at_ := by
  obtain ⟨k, h, ad, hk, h1, h2, h3⟩ := H
  exact ⟨k, h, ad, hk, h1.tch ht hF hG, h2, h3⟩
theorem Fnd.below {w w' : World} {F G n b o c : Nat} {win : Int} {ds : List Int} {at_ : Nat} (H : Fnd w F G n b o c win ds at_) (hb : Below w.heap.size w w') : Fnd w' F G n b o c win ds at_ :=
  H.tch (S := fun _ => False) (Tch.of_below hb) (fun e => e) (fun e => e)
theorem Fnd.up {w : World} {F G n b o c : Nat} {win : Int} {ds : List Int} {i j : Nat} (H : Fnd w F G n b o c win ds i) (hij : i ≤ j) : Fnd w F G n b o c win ds j := by
  obtain ⟨k, h, ad, hk, h1, h2, h3⟩ := H
  exact ⟨k, h, ad, by omega, h1, h2, h3⟩

/-- Blocks of unlike types are unlike. -/
theorem blk_ne {w : World} {i j : Nat} {c d : Array Value} {s t : TypeId} (hi : w.heap[i]? = some (.cells c s (0, 0))) (hj : w.heap[j]? = some (.cells d t (0, 0))) (h : s ≠ t) : i ≠ j := by
  intro e
  subst e
  rw [hi] at hj
  simp at hj
  exact h hj.2
theorem own_ne {w : World} {v : Value} {ps : List Sq} (h : OwnsS w v ps) {b : Nat} {cs : Array Value} {t : TypeId} (hb : w.heap[b]? = some (.cells cs t (0, 0))) (ht : t ≠ 37) : v.ownBlock ≠ some b := fun e => h.ne_blk hb ht e rfl
end Go.Proofs.Ytghokdmfhifgjaa
