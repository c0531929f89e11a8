/-
  What the law on bits that are taken forward comes to: true, and nothing that was there is touched.
-/
import Derived.Test.YtbjpeomokgchnaaTake
import Derived.Test.YtbjpeomokgchnaaRefTk
namespace Go.Proofs.Ytbjpeomokgchnaa
open Go.RowKit Pl
set_option linter.unusedVariables false

theorem Bits.unp (ys : List Int) (p : Nat) : Bits ((unpack ys).drop p) := (bits_unpack ys).drop p

/-- The document's take of what is left is the reader's own. -/
theorem tk_same (ys : List Int) (p : Nat) (n : Int) : tkV ((unpack ys).drop p) ((unpack ys).drop p).length 0 n = tkV (unpack ys) (8 * ys.length - p) p n ∧
    tkE ((unpack ys).drop p).length n = tkE (8 * ys.length - p) n ∧ tkN ((unpack ys).drop p).length n = tkN (8 * ys.length - p) n := by
  have e : ((unpack ys).drop p).length = 8 * ys.length - p := by rw [List.length_drop, unpack_length]
  rw [e]
  refine ⟨?_, rfl, rfl⟩
  unfold tkV
  rw [val_drop, Nat.add_zero]

set_option maxRecDepth 100000 in
set_option maxHeartbeats 2000000 in
theorem bitsReads_walk (v u : Value) (ys ts : List Int) (w : World) (hx : Rd .u8 w v ys) (hy : By ys) (ht : Rd .i64 w u ts) (h1 : ys.length ≤ 1048576) (h2 : ts.length ≤ 1048576) :
    Calls Try.prog 4 #[v, u] w fun e w' => e = .returned (.bool true) ∧ Below w.heap.size w w' := by
  have HX : Hid (Rd .u8 w v ys) := hx
  have HY : Hid (By ys) := hy
  have HT : Hid (Rd .i64 w u ts) := ht
  obtain ⟨ta, tc, rfl, _, _, _, htc⟩ := ht
  have HTC : Hid (ts = [] ∨ ∃ b o, ta = some ⟨b, o, none⟩ ∧ ∀ i, i < ts.length → w.cell? ⟨b, o + i, none⟩ = some (.int .i64 (ts.getD i 0))) := htc
  clear hx hy htc
  go_enter Try.func4, Try.ntmps4
  go_wp2_with fail
  refine (newReader_any v ys w HX.out HY.out (by omega)).mono ?_
  rintro e w1 ⟨b, rv, rfl, hr1, b1, hb1, hf1⟩
  have R1 : Hid (Rr w1 b rv ys 0) := hr1
  have B1 : Hid (Below w.heap.size w w1) := b1
  have HB : Hid (w.heap.size ≤ b) := hb1
  clear hr1 b1 hb1 hf1
  go_wp2_with fail
  refine (row_rd v ys w1 (HX.out.below B1.out) HY.out h1).mono ?_
  rintro e w2 ⟨r2, rfl, ho2, hg2⟩
  obtain ⟨b2, f2⟩ := hg2.below
  have R2 : Hid (Rr w2 b rv ys 0) := R1.out.below b2
  have O2 : Hid (Rd .i64 w2 r2 ((unpack ys).drop 0)) := by simpa [Hid] using ho2.rd
  have B2 : Hid (Below w.heap.size w w2) := B1.out.trans (b2.mono B1.out.size)
  have N2 : Hid (∀ j, r2.ownBlock = some j → j ≠ b) := fun j hj => by have := f2 j hj; have := R1.out.lt; omega
  clear ho2 hg2 b2 f2 R1 B1
  go_wp2_with fail
  go_loopw [6, 7] (fun r i wr => ∃ k p : Nat, k ≤ ts.length ∧ i = .int .i64 k ∧ Hid (Rr wr b rv ys p) ∧ Hid (Rd .i64 wr r ((unpack ys).drop p)) ∧ Hid (∀ j, r.ownBlock = some j → j ≠ b) ∧ Hid (Below w.heap.size w wr)) (fun _ i _ => ts.length - (intOf i).toNat)
  case atStart => exact ⟨0, 0, Nat.zero_le _, rfl, R2, O2, N2, B2⟩
  case round =>
    obtain ⟨k, p, hk, rfl, R3, O3, N3, B3⟩ := hrel
    clear R2 O2 N2 B2
    by_cases hlt : k < ts.length
    · obtain ⟨tb, to', rfl, hc⟩ : ∃ b o, ta = some ⟨b, o, none⟩ ∧ ∀ i, i < ts.length → w.cell? ⟨b, o + i, none⟩ = some (.int .i64 (ts.getD i 0)) := by
        rcases HTC.out with rfl | h
        · simp at hlt
        · exact h
      obtain ⟨n, hne⟩ : ∃ n, Hid (ts.getD k 0 = n) := ⟨_, rfl⟩
      have cn0 : w.cell? ⟨tb, to' + k, none⟩ = some (.int .i64 n) := by rw [hc k hlt, hne.out]
      have htb : tb < w.heap.size := World.block_lt_of_cell? w ⟨tb, to' + k, none⟩ cn0
      have cn : wr.cell? ⟨tb, to' + k, none⟩ = some (.int .i64 n) := by rw [B3.out.cell (p := ⟨tb, to' + k, none⟩) htb]; exact cn0
      have CN0 : Hid (w.cell? ⟨tb, to' + k, none⟩ = some (.int .i64 n)) := cn0
      have HTB : Hid (tb < w.heap.size) := htb
      clear hc cn0 htb
      go_wp2_with fail
      refine (refTake_rd u6 n _ wr O3.out (Bits.unp ys p) (by rw [List.length_drop, unpack_length]; omega)).mono ?_
      rintro e w4 ⟨r4, rfl, hr4, hn4, q4, hw4⟩
      obtain ⟨eV, eE, eN⟩ := tk_same ys p n
      rw [eV, eE]
      rw [eN] at hr4
      obtain ⟨L, hL⟩ : ∃ L : Nat, Hid (8 * ys.length - p = L) := ⟨_, rfl⟩
      obtain ⟨X, hX⟩ : ∃ X, Hid (tkV (unpack ys) (8 * ys.length - p) p n = X) := ⟨_, rfl⟩
      obtain ⟨E, hE⟩ : ∃ E, Hid (tkE (8 * ys.length - p) n = E) := ⟨_, rfl⟩
      rw [hX.out, hE.out]
      have T4 : Hid (Below wr.heap.size wr w4) := by rw [hw4]; exact Below.of_drewN _ _ _
      have R4 : Hid (Rr w4 b rv ys p) := R3.out.below T4.out
      have B4 : Hid (Below w.heap.size w w4) := B3.out.trans (T4.out.mono B3.out.size)
      have O4 : Hid (Rd .i64 w4 r4 (((unpack ys).drop p).drop (tkN (8 * ys.length - p) n))) := hr4
      have N4 : Hid (∀ j, r4.ownBlock = some j → j ≠ b) := fun j hj => N3.out j (hn4 j hj)
      have cn4 : w4.cell? ⟨tb, to' + k, none⟩ = some (.int .i64 n) := by rw [B4.out.cell (p := ⟨tb, to' + k, none⟩) HTB.out]; exact CN0.out
      clear hr4 hn4 hw4 eV eE eN T4 cn O3 N3 B3 R3
      go_wp2_with fail
      refine (take_any b rv ys p n w4 R4.out).mono ?_
      rintro e w5 ⟨rfl, hr5, ht5⟩
      rw [hX.out, hE.out]
      have htn := tkN_le (8 * ys.length - p) n
      have hp := R4.out.le
      obtain ⟨p', hp'⟩ : ∃ p', Hid (p + tkN (8 * ys.length - p) n = p') := ⟨_, rfl⟩
      rw [hp'.out] at hr5
      have R5 : Hid (Rr w5 b rv ys p') := hr5
      have B5 : Hid (Below w.heap.size w w5) := B4.out.trans (ht5.below B4.out.size (fun j e => by rw [e]; exact HB.out))
      have O5 : Hid (Rd .i64 w5 r4 ((unpack ys).drop p')) := by
        have := O4.out.tch ht5 (fun j hj => N4.out j hj)
        rw [List.drop_drop, hp'.out] at this
        exact this
      clear hr5 ht5 R4 B4 O4 cn4 htn
      have hlen : ((unpack ys).drop p').length = 8 * ys.length - p' := by rw [List.length_drop, unpack_length]
      obtain ⟨a4, c4, hv4⟩ : ∃ a cap, r4 = .slice a (8 * ys.length - p') cap := by
        obtain ⟨a, cap, e, _⟩ := O5.out
        exact ⟨a, cap, by rw [e, hlen]⟩
      subst hv4
      obtain ⟨L', hL'⟩ : ∃ L' : Nat, Hid (8 * ys.length - p' = L') := ⟨_, rfl⟩
      rw [hL'.out] at N4 O5 ⊢
      clear hlen hp
      go_wp2_with fail
      refine (left_any b rv ys p' w5 R5.out).mono ?_
      rintro e w6 ⟨rfl, q6, hw6⟩
      rw [hL'.out]
      have T6 : Hid (Below w5.heap.size w5 w6) := by rw [hw6]; exact Below.of_drewN _ _ _
      have R6 : Hid (Rr w6 b rv ys p') := R5.out.below T6.out
      have O6 : Hid (Rd .i64 w6 (.slice a4 L' c4) ((unpack ys).drop p')) := O5.out.below T6.out
      have B6 : Hid (Below w.heap.size w w6) := B5.out.trans (T6.out.mono B5.out.size)
      clear hw6 T6 R5 O5 B5
      go_wp2_with fail
      go_roundw
      case rel => exact ⟨k + 1, p', by omega, by go_num, R6, O6, N4, B6⟩
      case measure => simp [intOf]; omega
    · go_wp2_with fail
      refine (lives_any _).mono ?_
      rintro e w7 ⟨rfl, b7⟩
      have B7 : Hid (Below w.heap.size w w7) := B3.out.trans (b7.mono B3.out.size)
      clear b7
      go_wp2_with fail
      go_ret
      exact ⟨rfl, B7.out⟩
end Go.Proofs.Ytbjpeomokgchnaa
