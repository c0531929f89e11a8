/-
  What the law on rows that are put comes to: true, and nothing that was there is touched.
-/
import Derived.Test.YtbjpeomokgchnaaWMark
import Derived.Test.YtbjpeomokgchnaaPieceArg
import Derived.Test.YtbjpeomokgchnaaRefPut
import Derived.Test.YtbjpeomokgchnaaSame
import Derived.Deep.RegionHeld3
namespace Go.Proofs.Ytbjpeomokgchnaa
open Go.RowKit Pl
set_option linter.unusedVariables false

/-- What a put is told. -/
def putE (p : Int × Int) : Int := if 0 ≤ p.1 ∧ p.1 ≤ 32 ∧ 0 ≤ p.2 ∧ p.2 < 2 ^ p.1.toNat then 0 else 1
/-- What a put makes of a row. -/
def putB (bs : List Int) (p : Int × Int) : List Int := if 0 ≤ p.1 ∧ p.1 ≤ 32 ∧ 0 ≤ p.2 ∧ p.2 < 2 ^ p.1.toNat then bs ++ bitsOf p.2 p.1.toNat else bs

theorem put_yes {bs : List Int} {p : Int × Int} (h : OkP p) : putE p = 0 ∧ putB bs p = bs ++ bitsOf p.2 p.1.toNat := ⟨if_pos h, if_pos h⟩
theorem put_no {bs : List Int} {p : Int × Int} (h : ¬ OkP p) : putE p = 1 ∧ putB bs p = bs := ⟨if_neg h, if_neg h⟩

theorem not_ok {n x : Int} (h : ¬ OkP (n, x)) : n < 0 ∨ 32 < n ∨ x < 0 ∨ 2 ^ n.toNat ≤ x := by
  unfold OkP at h
  simp only at h
  by_cases a1 : n < 0
  · exact .inl a1
  · by_cases a2 : 32 < n
    · exact .inr (.inl a2)
    · by_cases a3 : x < 0
      · exact .inr (.inr (.inl a3))
      · refine .inr (.inr (.inr ?_))
        rcases Int.lt_or_le x (2 ^ n.toNat) with a4 | a4
        · exact absurd ⟨by omega, by omega, by omega, a4⟩ h
        · exact a4

theorem putB_length (bs : List Int) (p : Int × Int) : (putB bs p).length ≤ bs.length + 32 := by
  unfold putB
  split
  · rename_i h
    rw [List.length_append, bitsOf_length]
    have := h.2.1
    omega
  · omega

theorem put_all (b : Nat) (rv : Value) (n x : Int) (bs : List Int) (w : World) (h : Wr w b rv bs) (hn : bs.length ≤ 1125899906841900) (h64 : x < 9223372036854775808) :
    Calls Try.prog 11 #[.pointer (some ⟨b, 0, none⟩), .int .i64 n, .int .i64 x] w fun e w' => e = .returned (.int .i64 (putE (n, x))) ∧ ∃ rv', WrTo w b rv w' rv' (putB bs (n, x)) := by
  by_cases hok : OkP (n, x)
  · rw [(put_yes (bs := bs) hok).1, (put_yes hok).2]
    obtain ⟨h0, h1, h2, h3⟩ := hok
    simp only at h0 h1 h2 h3
    obtain ⟨m, rfl⟩ := Int.eq_ofNat_of_zero_le h0
    exact put_ok b rv m x bs w h hn (by omega) h2 h3
  · rw [(put_no (bs := bs) hok).1, (put_no hok).2]
    refine (put_bad _ n x w h64 (not_ok hok)).mono ?_
    rintro e w' ⟨rfl, rfl⟩
    exact ⟨rfl, rv, WrTo.refl h⟩

theorem refPut_all (v : Value) (n x : Int) (bs : List Int) (w : World) (h : Owns .i64 3 w v bs) (hn : bs.length ≤ 1099511627776) (h64 : x < 9223372036854775808) :
    Calls Try.prog 10 #[v, .int .i64 n, .int .i64 x] w fun e w' => ∃ v', e = .returned (.tuple #[v', .int .i64 (putE (n, x))]) ∧ Owns .i64 3 w' v' (putB bs (n, x)) ∧ Below w.heap.size w w' ∧ ∀ k, v'.ownBlock = some k → v.ownBlock = some k ∨ w.heap.size ≤ k := by
  by_cases hok : OkP (n, x)
  · rw [(put_yes (bs := bs) hok).1, (put_yes hok).2]
    obtain ⟨h0, h1, h2, h3⟩ := hok
    simp only at h0 h1 h2 h3
    obtain ⟨m, rfl⟩ := Int.eq_ofNat_of_zero_le h0
    refine (refPut_ok v bs m x w h.rd hn (by omega) h2 h3).mono ?_
    rintro e w' ⟨v', rfl, ho, hg⟩
    exact ⟨v', rfl, ho, hg.below.1, fun k hk => .inr (hg.below.2 k hk)⟩
  · rw [(put_no (bs := bs) hok).1, (put_no hok).2]
    refine (refPut_bad v n x w h64 (not_ok hok)).mono ?_
    rintro e w' ⟨rfl, rfl⟩
    exact ⟨v, rfl, h, Below.refl _ _, fun k hk => .inl hk⟩

theorem owns_ne {k1 k2 : IntKind} {W : World} {e1 e2 : TypeId} {u v : Value} {xs ys : List Int} (h : Owns k1 e1 W u xs) (h2 : Owns k2 e2 W v ys) (ht : e1 ≠ e2) {j : Nat} (hj : u.ownBlock = some j) : v.ownBlock ≠ some j := by
  intro e
  obtain ⟨c1, q1⟩ := block_of_owns (w := W) h hj
  obtain ⟨c2, q2⟩ := block_of_owns (w := W) h2 e
  rw [q1] at q2
  simp at q2
  exact ht q2.2

theorem owns_ne_blk {k1 : IntKind} {W : World} {e1 t : TypeId} {u : Value} {xs : List Int} {b : Nat} {cs : Array Value} (h : Owns k1 e1 W u xs) (hb : W.heap[b]? = some (.cells cs t (0, 0))) (ht : e1 ≠ t) {j : Nat} (hj : u.ownBlock = some j) : j ≠ b := by
  intro e
  subst e
  obtain ⟨c1, q1⟩ := block_of_owns (w := W) h hj
  rw [q1] at hb
  simp at hb
  exact ht hb.2

/-- The writer and the document's row beside it. -/
structure Sw (w : World) (W : World) (b : Nat) (rv r : Value) (bs : List Int) : Prop where
  wr : Wr W b rv bs
  own : Owns .i64 3 W r bs
  bel : Below w.heap.size w W
  bn : w.heap.size ≤ b
  rn : ∀ k, rv.ownBlock = some k → w.heap.size ≤ k

theorem Sw.blw {w W W' : World} {b : Nat} {rv r : Value} {bs : List Int} (h : Sw w W b rv r bs) (hb : Below W.heap.size W W') : Sw w W' b rv r bs :=
  ⟨h.wr.tch (S := fun _ => False) (Tch.of_below hb) (fun e => e) (fun _ _ e => e), h.own.below hb, h.bel.trans (hb.mono h.bel.size), h.bn, h.rn⟩

/-- The writer alone goes on. -/
theorem Sw.put {w W W' : World} {b : Nat} {rv rv' r r' : Value} {bs xs : List Int} (h : Sw w W b rv r bs) (ho : Owns .i64 3 W r' xs) (hp : WrTo W b rv W' rv' xs) : Sw w W' b rv' r' xs := by
  refine ⟨hp.wr, ho.tch hp.tch (fun j hj e => ?_), h.bel.trans (hp.tch.below h.bel.size (fun k hk => ?_)), h.bn, fun k hk => ?_⟩
  · rcases e with e | e
    · exact owns_ne_blk ho h.wr.blk (by decide) hj e
    · exact owns_ne ho (k2 := .u8) (e2 := 5) (v := rv) (ys := pack bs) h.wr.own (by decide) hj e
  · rcases hk with e | e
    · rw [e]; exact h.bn
    · exact h.rn k e
  · rcases hp.fresh k hk with e | e
    · exact h.rn k e
    · have := h.bel.size; omega

/-- A row of bytes that is new is written over: the rest stays. -/
theorem Sw.over {w W W' : World} {b : Nat} {rv r x : Value} {bs : List Int} (h : Sw w W b rv r bs) (ht : Tch (fun j => x.ownBlock = some j) W W') (hx : ∀ j, x.ownBlock = some j → w.heap.size ≤ j ∧ j ≠ b ∧ rv.ownBlock ≠ some j ∧ r.ownBlock ≠ some j) : Sw w W' b rv r bs :=
  ⟨h.wr.tch ht (fun e => (hx _ e).2.1 rfl) (fun k hk e => (hx _ e).2.2.1 hk), h.own.tch ht (fun k hk e => (hx _ e).2.2.2 hk), h.bel.trans (ht.below h.bel.size (fun k e => (hx k e).1)), h.bn, h.rn⟩

set_option maxRecDepth 100000 in
set_option maxHeartbeats 4000000 in
theorem bitsWrites_walk (v : Value) (ps : List (Int × Int)) (w : World) (hx : RdP w v ps) (h1 : ps.length ≤ 1048576) (h64 : ∀ i, (ps.getD i (0, 0)).2 < 9223372036854775808) :
    Calls Try.prog 3 #[v] w fun e w' => e = .returned (.bool true) ∧ Below w.heap.size w w' := by
  obtain ⟨ta, tc, rfl, _, _, htc⟩ := hx
  have HTC : Hid (ps = [] ∨ ∃ b o, ta = some ⟨b, o, none⟩ ∧ ∀ i, i < ps.length → w.cell? ⟨b, o + i * 2, none⟩ = some (.int .i64 (ps.getD i (0, 0)).1) ∧ w.cell? ⟨b, o + i * 2 + 1, none⟩ = some (.int .i64 (ps.getD i (0, 0)).2)) := htc
  have H64 : Hid (∀ i, (ps.getD i (0, 0)).2 < 9223372036854775808) := h64
  clear htc h64
  go_enter Try.func3, Try.ntmps3
  go_wp2_with fail
  refine (newWriter_any w).mono ?_
  rintro e w1 ⟨rfl, hw1, hb1⟩
  obtain ⟨b, HBE⟩ : ∃ b, Hid (w.heap.size = b) := ⟨_, rfl⟩
  rw [HBE.out] at hw1 ⊢
  have S1 : Hid (Sw w w1 b (.slice none 0 0) (.slice none 0 0) []) := ⟨hw1, owns_nil _ _ _, hb1, Nat.le_of_eq HBE.out, fun k e => (by cases e)⟩
  clear hw1 hb1
  go_wp2_with fail
  go_loopw [4, 5] (fun r i wr => ∃ (k : Nat) (rv : Value) (bs : List Int), k ≤ ps.length ∧ i = .int .i64 k ∧ bs.length ≤ 32 * k ∧ Hid (Sw w wr b rv r bs)) (fun _ i _ => ps.length - (intOf i).toNat)
  case atStart => exact ⟨0, _, [], Nat.zero_le _, rfl, Nat.le_refl _, S1⟩
  case round =>
    obtain ⟨k, rv, bs, hk, rfl, hqk, hS⟩ := hrel
    clear S1
    by_cases hlt : k < ps.length
    · obtain ⟨tb, to', rfl, hc⟩ : ∃ b o, ta = some ⟨b, o, none⟩ ∧ ∀ i, i < ps.length → w.cell? ⟨b, o + i * 2, none⟩ = some (.int .i64 (ps.getD i (0, 0)).1) ∧ w.cell? ⟨b, o + i * 2 + 1, none⟩ = some (.int .i64 (ps.getD i (0, 0)).2) := by
        rcases HTC.out with rfl | h
        · simp at hlt
        · exact h
      obtain ⟨n, hne⟩ : ∃ n, Hid ((ps.getD k (0, 0)).1 = n) := ⟨_, rfl⟩
      obtain ⟨x, hxe⟩ : ∃ x, Hid ((ps.getD k (0, 0)).2 = x) := ⟨_, rfl⟩
      have HX64 : Hid (x < 9223372036854775808) := by show x < _; rw [← hxe.out]; exact H64.out k
      have hc0 := hc k hlt
      rw [hne.out, hxe.out] at hc0
      have htb : tb < w.heap.size := World.block_lt_of_cell? w ⟨tb, to' + k * 2, none⟩ hc0.1
      have CN0 : Hid (∀ W : World, Below w.heap.size w W → W.cell? ⟨tb, to' + k * 2, none⟩ = some (.int .i64 n) ∧ W.cell? ⟨tb, to' + k * 2 + 1, none⟩ = some (.int .i64 x)) := fun W hW =>
        ⟨by rw [hW.cell (p := ⟨tb, to' + k * 2, none⟩) htb]; exact hc0.1, by rw [hW.cell (p := ⟨tb, to' + k * 2 + 1, none⟩) htb]; exact hc0.2⟩
      obtain ⟨cn, cx⟩ := CN0.out wr hS.out.bel
      clear hc hc0 htb
      obtain ⟨E, hE⟩ : ∃ E, Hid (putE (n, x) = E) := ⟨_, rfl⟩
      obtain ⟨bs2, hbs2⟩ : ∃ z, Hid (putB bs (n, x) = z) := ⟨_, rfl⟩
      have hl2 : bs2.length ≤ bs.length + 32 := by rw [← hbs2.out]; exact putB_length bs _
      have HRP : Hid (∀ W : World, Below wr.heap.size wr W → Calls Try.prog 10 #[u4, .int .i64 n, .int .i64 x] W fun e w' => ∃ a c, e = .returned (.tuple #[.slice a bs2.length c, .int .i64 E]) ∧ Sw w w' b rv u4 bs ∧ Owns .i64 3 w' (.slice a bs2.length c) bs2) := by
        intro W hW
        have hs := hS.out.blw hW
        refine (refPut_all u4 n x bs W hs.own (by omega) HX64.out).mono ?_
        rintro e w' ⟨v', rfl, ho, hb, _⟩
        rw [hE.out]
        rw [hbs2.out] at ho
        obtain ⟨a, c, rfl⟩ := own_form ho
        exact ⟨a, c, rfl, hs.blw hb, ho⟩
      go_wp2_with fail
      go_region_held3 (fun w' => w'.cell? ⟨tb, to' + k * 2, none⟩ = some (.int .i64 n) ∧ w'.cell? ⟨tb, to' + k * 2 + 1, none⟩ = some (.int .i64 x)) (go_keep)
        ((go_at_call 10; refine (HRP.out _ (by repeat (first | exact Below.refl _ _ | apply Below.drew))).mono ?_; rintro e w2 ⟨a2, c2, rfl, hs2, ho2⟩; obtain ⟨cn2, cx2⟩ := CN0.out w2 hs2.bel))
      have S2 : Hid (Sw w w2 b rv u4 bs) := hs2
      have O2 : Hid (Owns .i64 3 w2 (.slice a2 bs2.length c2) bs2) := ho2
      clear hs2 ho2 cn cx HRP hS
      have HPU : Hid (∀ W : World, Below w2.heap.size w2 W → Calls Try.prog 11 #[.pointer (some ⟨b, 0, none⟩), .int .i64 n, .int .i64 x] W fun e w' => e = .returned (.int .i64 E) ∧ ∃ rv', Sw w w' b rv' (.slice a2 bs2.length c2) bs2) := by
        intro W hW
        have hs := S2.out.blw hW
        refine (put_all b rv n x bs W hs.wr (by omega) HX64.out).mono ?_
        rintro e w' ⟨rfl, rv', hp⟩
        rw [hE.out]
        rw [hbs2.out] at hp
        exact ⟨rfl, rv', hs.put (O2.out.below hW) hp⟩
      go_wp2_with fail
      go_region_held3 (fun w' => w'.cell? ⟨tb, to' + k * 2, none⟩ = some (.int .i64 n) ∧ w'.cell? ⟨tb, to' + k * 2 + 1, none⟩ = some (.int .i64 x)) (go_keep)
        (first | (go_at_call 11; refine (HPU.out _ (by repeat (first | exact Below.refl _ _ | apply Below.drew))).mono ?_; rintro e w3 ⟨rfl, rv3, hs3⟩; obtain ⟨cn3, cx3⟩ := CN0.out w3 hs3.bel) | (go_at_call 12; refine (len_any b rv3 bs2 _ hs3.wr).mono ?_; rintro e w3 ⟨rfl, rfl⟩))
      have S3 : Hid (Sw w w3 b rv3 (.slice a2 bs2.length c2) bs2) := hs3
      clear hs3 cn2 cx2 cn3 cx3 HPU S2 O2 CN0
      have hl3 : bs2.length ≤ 32 * (k + 1) := by omega
      by_cases hcont : 100 ≤ k ∧ k + 1 < ps.length
      · obtain ⟨hc1, hc2⟩ := hcont
        go_wp2_with fail
        go_roundw
        case rel => exact ⟨k + 1, rv3, bs2, by omega, by go_num, hl3, S3⟩
        case measure => simp [intOf]; omega
      · by_cases h100 : 100 ≤ k
        all_goals
          go_wp2_with (at_builtin; refine wpList_many _ rfl (.tmp 68) (.tmp 69) 25 rfl 3 .i64 8 elem64 _ [] rfl (owns_nil _ _ _) _ bs2 rfl S3.out.own.rd (by simp; omega) (by simp; omega) ?_)
          intro v5 w5 ho5 hg5
          have S5 : Hid (Sw w w5 b rv3 (.slice a2 bs2.length c2) bs2) := S3.out.blw hg5.below.1
          have O5 : Hid (Owns .i64 3 w5 v5 bs2) := by simpa [Hid] using ho5
          have F5 : Hid (∀ j, v5.ownBlock = some j → w3.heap.size ≤ j) := hg5.below.2
          have Z5 : Hid (Below w3.heap.size w3 w5) := hg5.below.1
          clear ho5 hg5
          go_wp2_with (at_builtin; refine wpList_push _ rfl (.tmp 71) (.tmp 72) 25 rfl 3 .i64 8 elem64 _ bs2 rfl O5.out 1 rfl (by omega) (by omega) ?_)
          intro v6 w6 ho6 hg6
          have Z6 : Hid (Below w3.heap.size w3 w6) := Z5.out.trans (hg6.tch.below Z5.out.size (fun j e => F5.out j e))
          have S6 : Hid (Sw w w6 b rv3 (.slice a2 bs2.length c2) bs2) := S3.out.blw Z6.out
          have O6 : Hid (Owns .i64 3 w6 v6 (bs2 ++ [1])) := ho6
          clear ho6 hg6 S5 O5 F5 Z5 Z6
          go_wp2_with fail
          refine (bytes_any b rv3 bs2 w6 S6.out.wr (by omega)).mono ?_
          rintro e w7 ⟨v7, rfl, ho7, hb7, hf7⟩
          have S7 : Hid (Sw w w7 b rv3 (.slice a2 bs2.length c2) bs2) := S6.out.blw hb7
          have O7 : Hid (Owns .i64 3 w7 v6 (bs2 ++ [1])) := O6.out.below hb7
          have X7 : Hid (Owns .u8 5 w7 v7 (pack bs2)) := ho7
          have F7 : Hid (∀ j, v7.ownBlock = some j → w.heap.size ≤ j ∧ j ≠ b ∧ rv3.ownBlock ≠ some j ∧ (Value.slice a2 bs2.length c2).ownBlock ≠ some j) := fun j hj => by
            have f := hf7 j hj
            refine ⟨Nat.le_trans S6.out.bel.size f, fun e => ?_, fun e => ?_, fun e => ?_⟩
            · have := S6.out.wr.lt; omega
            · have := (World.ownsRow.lt S6.out.wr.own j e).2; omega
            · have := S6.out.own.lt j e; omega
          clear ho7 hb7 hf7 S6 O6
          go_wp2_with fail
          refine (pack_rd _ bs2 w7 S7.out.own.rd S7.out.wr.bits (by omega)).mono ?_
          rintro e w8 ⟨v8, rfl, ho8, hg8⟩
          have S8 : Hid (Sw w w8 b rv3 (.slice a2 bs2.length c2) bs2) := S7.out.blw hg8.below.1
          have O8 : Hid (Owns .i64 3 w8 v6 (bs2 ++ [1])) := O7.out.below hg8.below.1
          have X8 : Hid (Owns .u8 5 w8 v7 (pack bs2)) := X7.out.below hg8.below.1
          have Y8 : Hid (Owns .u8 5 w8 v8 (pack bs2)) := ho8
          clear ho8 hg8 S7 O7 X7
          go_wp2_with fail
          refine (same_rd v7 v8 (pack bs2) (pack bs2) w8 X8.out.rd Y8.out.rd).mono ?_
          rintro e w9 ⟨rfl, hb9⟩
          have ed : decide (pack bs2 = pack bs2) = true := by simp
          rw [ed]
          have S9 : Hid (Sw w w9 b rv3 (.slice a2 bs2.length c2) bs2) := S8.out.blw hb9
          have O9 : Hid (Owns .i64 3 w9 v6 (bs2 ++ [1])) := O8.out.below hb9
          have X9 : Hid (Owns .u8 5 w9 v7 (pack bs2)) := X8.out.below hb9
          clear ed hb9 S8 O8 X8 Y8
          go_wp2_with fail
          refine (wmarked_any b rv3 bs2 w9 S9.out.wr (by omega)).mono ?_
          rintro e w10 ⟨v10, rfl, ho10, hb10, _⟩
          have S10 : Hid (Sw w w10 b rv3 (.slice a2 bs2.length c2) bs2) := S9.out.blw hb10
          have O10 : Hid (Owns .i64 3 w10 v6 (bs2 ++ [1])) := O9.out.below hb10
          have X10 : Hid (Owns .u8 5 w10 v7 (pack bs2)) := X9.out.below hb10
          have M10 : Hid (Owns .u8 5 w10 v10 (pack (bs2 ++ [1]))) := ho10
          clear ho10 hb10 S9 O9 X9
          go_wp2_with fail
          refine (pack_rd _ (bs2 ++ [1]) w10 O10.out.rd (S10.out.wr.bits.snoc (.inr rfl)) (by simp; omega)).mono ?_
          rintro e w11 ⟨v11, rfl, ho11, hg11⟩
          have S11 : Hid (Sw w w11 b rv3 (.slice a2 bs2.length c2) bs2) := S10.out.blw hg11.below.1
          have X11 : Hid (Owns .u8 5 w11 v7 (pack bs2)) := X10.out.below hg11.below.1
          have M11 : Hid (Owns .u8 5 w11 v10 (pack (bs2 ++ [1]))) := M10.out.below hg11.below.1
          have Y11 : Hid (Owns .u8 5 w11 v11 (pack (bs2 ++ [1]))) := ho11
          clear ho11 hg11 S10 O10 X10 M10
          go_wp2_with fail
          refine (same_rd v10 v11 (pack (bs2 ++ [1])) (pack (bs2 ++ [1])) w11 M11.out.rd Y11.out.rd).mono ?_
          rintro e w12 ⟨rfl, hb12⟩
          have ed : decide (pack (bs2 ++ [1]) = pack (bs2 ++ [1])) = true := by simp
          rw [ed]
          have S12 : Hid (Sw w w12 b rv3 (.slice a2 bs2.length c2) bs2) := S11.out.blw hb12
          have X12 : Hid (Owns .u8 5 w12 v7 (pack bs2)) := X11.out.below hb12
          clear ed hb12 S11 X11 M11 Y11
          obtain ⟨a7, c7, hv7⟩ := own_form X12.out
          subst hv7
          have hpl : (pack bs2).length ≤ 4194400 := by rw [pack_length]; omega
          obtain ⟨L, hL⟩ : ∃ L, Hid ((pack bs2).length = L) := ⟨_, rfl⟩
          rw [hL.out] at hpl X12 F7 ⊢
          go_wp2_with fail
          go_loopw [12] (fun i wr => ∃ (t : Nat) (zs : List Int), t ≤ L ∧ i = .int .i64 t ∧ Hid (zs.length = L ∧ Owns .u8 5 wr (.slice a7 L c7) zs ∧ Tch (fun j => (Value.slice a7 L c7).ownBlock = some j) w12 wr)) (fun i _ => L - (intOf i).toNat)
          case atStart => exact ⟨0, pack bs2, Nat.zero_le _, rfl, hL.out, X12.out, Tch.refl _ _⟩
          case round =>
            obtain ⟨t, zs, ht, rfl, hZ⟩ := hrel
            by_cases htl : t < L
            · obtain ⟨g, cap, hv, hgl, hlc, hcm, hcell, hfz⟩ := hZ.out.2.1.shape (by rw [hZ.out.1]; omega)
              simp only [Value.slice.injEq] at hv
              obtain ⟨rfl, _, _⟩ := hv
              have cz := hcell t (by rw [hZ.out.1]; exact htl)
              have fz := hfz t
              clear hcell hfz
              go_wp2_with fail
              go_roundw
              case rel =>
                refine ⟨t + 1, zs.set t 99, by omega, by go_num, ?_, ?_, ?_⟩
                · rw [List.length_set]; exact hZ.out.1
                · exact hZ.out.2.1.set t _
                · exact hZ.out.2.2.setCell (p := ⟨g, t, none⟩) (fun _ => rfl) _
              case measure => simp [intOf]; omega
            · have S13 : Hid (Sw w wr b rv3 (.slice a2 bs2.length c2) bs2) := S12.out.over hZ.out.2.2 F7.out
              clear hZ S12 X12 F7
              go_wp2_with fail
              go_roundw
              case rel => exact ⟨k + 1, rv3, bs2, by omega, by go_num, hl3, S13⟩
              case measure => simp [intOf]; omega
    · go_wp2_with fail
      refine (lives_any _).mono ?_
      rintro e w7 ⟨rfl, b7⟩
      have B7 : Hid (Below w.heap.size w w7) := hS.out.bel.trans (b7.mono hS.out.bel.size)
      clear b7
      go_wp2_with fail
      go_ret
      exact ⟨rfl, B7.out⟩
end Go.Proofs.Ytbjpeomokgchnaa
