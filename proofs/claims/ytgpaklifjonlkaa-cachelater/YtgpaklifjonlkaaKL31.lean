import Derived.Test.YtgpaklifjonlkaaKL29
import Derived.Test.YtgpaklifjonlkaaKL26
import Derived.Test.YtgpaklifjonlkaaKL04
import Derived.Test.YtgpaklifjonlkaaKL30
/-
  Nothing comes to the disk ahead of Flush.
-/
namespace Go.Proofs.Ytgpaklifjonlkaa
open Go.RowKit Go.Maps
set_option linter.unusedVariables false
set_option linter.unusedSimpArgs false
set_option maxRecDepth 100000

theorem new_dirty : (DS.new 60).dirty.length = 0 := by
  have : (DS.new 60).dirty = [] := by
    unfold DS.dirty
    rw [List.filter_eq_nil_iff]
    intro i _
    simp [DS.new]
  rw [this]
  rfl
/-- What is written off a new disk. -/
theorem flD_has (D : DS) (B : Nat → Int × List Int) (hc : D.c = false) : ∀ (l : List Nat), (flD D B l).c = false ∧ ∀ i, (flD D B l).V i ≠ [] ↔ D.V i ≠ [] ∨ i ∈ l := fun l => by
  induction l generalizing D with
  | nil => exact ⟨hc, fun i => by simp [flD]⟩
  | cons a r ih =>
    have e : D.wr a (sec (a : Int) (B a).1 (B a).2) = { D.tick with V := vput D.V a (D.V a ++ [sec (a : Int) (B a).1 (B a).2]) } := by
      unfold DS.wr
      exact if_pos (by unfold DS.can; rw [hc]; rfl)
    obtain ⟨h1, h2⟩ := ih (D.wr a (sec (a : Int) (B a).1 (B a).2)) (by rw [e]; exact hc)
    refine ⟨h1, fun i => ?_⟩
    rw [flD, h2, e]
    show vput D.V a (D.V a ++ [sec (a : Int) (B a).1 (B a).2]) i ≠ [] ∨ _ ↔ _
    unfold vput
    by_cases ei : i = a
    · subst ei; simp
    · simp [ei]
theorem flushed_dirty {s : CS} (ho : COk 60 s) : (s.flushD (DS.new 60)).dirty = s.d := by
  obtain ⟨_, h⟩ := flD_has (DS.new 60) s.B rfl s.d
  unfold DS.dirty
  have e : (s.flushD (DS.new 60)).L.length = 60 := by show (flD (DS.new 60) s.B s.d).L.length = 60; rw [flD_L]; exact newLen
  rw [e]
  refine Eq.trans (List.filter_congr fun i _ => ?_) (rising_pick ho.dr (fun n hn => (ho.dl n hn).2))
  rw [Bool.eq_iff_iff, decide_eq_true_eq, decide_eq_true_eq]
  refine (h i).trans ⟨fun e => e.resolve_left (fun e => e rfl), fun e => .inr e⟩
theorem flush_d {s : CS} : s.flush.d = [] := by
  rw [List.eq_nil_iff_forall_not_mem]
  intro m hm
  have := (flS_d s s.d).1 hm
  exact this.2 this.1

set_option maxHeartbeats 2000000 in
theorem cacheLater_walk (a : Option Addr) (len cap : Nat) (xs : List Kq) (w : World) (hr : RdK w (.slice a len cap) xs) (hl : xs.length ≤ 9223372036854775807) :
    Calls Try.prog 5 #[.slice a len cap] w fun e w' => e = .returned (.bool true) ∧ Below w.heap.size w w' := by
  have HR : Hid (RdK w (.slice a len cap) xs) := hr
  have hlen : len = xs.length := by obtain ⟨_, _, e, _⟩ := hr; simp only [Value.slice.injEq] at e; exact e.2.1
  have HNL : Hid (xs.length = len) := hlen.symm
  have hl2 : len ≤ 9223372036854775807 := by omega
  have hc9 : cap ≤ 9223372036854775807 := by obtain ⟨_, _, e, _, h, _⟩ := hr; cases e; unfold maxLen at h; exact h
  have hlc : len ≤ cap := by obtain ⟨_, _, e, h, _⟩ := hr; cases e; omega
  have HLV : Hid (∀ W, Calls Try.prog 18 #[] W fun e w' => e = .returned (.bool true) ∧ Below W.heap.size W w') := fun W => lives_anyK W
  have HN := hideP (new_ok 60 w (by decide) (by decide))
  clear hr hl hlen
  go_enter Try.func5, Try.ntmps5
  go_wp2_with fail
  refine HN.out.mono ?_
  rintro e w1 ⟨d, S, rfl, hd, hb1, hs⟩
  have H1 : Hid (Dk S w1 d (DS.new 60) ∧ Below w.heap.size w w1 ∧ ∀ k, S k → w.heap.size ≤ k) := ⟨hd, hb1, hs⟩
  have HC := hideP (newK_ok d 60 3 w1 (by decide) (by decide) (by decide))
  clear hd hb1 hs HN
  go_wp2_with fail
  refine HC.out.mono ?_
  rintro e w2 ⟨c, X, rfl, hc, hb2, hx⟩
  have P2 : Hid (Pz w w w2 (fun _ => False) c d (CS.new 3) (DS.new 60)) := Pz.start H1.out.1 H1.out.2.1 H1.out.2.2 hc hb2 hx
  clear hc hb2 hx HC H1
  go_wp2_with fail
  go_loopw [7] (fun iv wr => ∃ (k : Nat) (s : CS), k ≤ len ∧ iv = .int .i64 k ∧ Hid (Pz w w wr (fun _ => False) c d s (DS.new 60))) (fun iv _ => len - (intOf iv).toNat)
  case atStart => exact ⟨0, _, Nat.zero_le _, rfl, P2⟩
  case round =>
    obtain ⟨k, s, hk, rfl, P⟩ := hrel
    clear P2
    by_cases hlt : k < len
    · have hki : (k : Int) < (len : Int) := by omega
      obtain ⟨x, hx⟩ : ∃ x, xs[k]? = some x := ⟨_, List.getElem?_eq_getElem (by rw [HNL.out]; exact hlt)⟩
      obtain ⟨lb, lo, rfl, XC, XO⟩ := HR.out.at_ P.out.below0 hx
      obtain ⟨kind, xn, bk, bv, body, pv, ps⟩ := x
      have c0 := XC.c0
      have c1 := XC.c1
      have c2 := XC.c2
      have c3 := XC.c3
      have c4 := XC.c4
      dsimp only at c0 c1 c2 c3 c4
      have HRD : Hid (Rd .u8 w bv body) := XO.rd
      have HBD : Hid (By body) := XO.by_
      have HWK : Hid ((Lit.int .i64 kind).wf = true) := XO.wk
      obtain ⟨da, dl, dc, rfl⟩ : ∃ a m cap, bv = .slice a m cap := by obtain ⟨a, c, e, _⟩ := XO.rd; exact ⟨_, _, _, e⟩
      obtain ⟨pa, pl, pc, rfl⟩ : ∃ a m cap, pv = .slice a m cap := by obtain ⟨a, c, e, _⟩ := XO.rp; exact ⟨_, _, _, e⟩
      clear XC XO hx
      obtain ⟨W1, hW1⟩ : ∃ W1, wr.alloc (.cells #[.int .i64 kind, .int .i64 xn, .int .i64 bk, .slice da dl dc, .slice pa pl pc] 43) = W1 := ⟨_, rfl⟩
      have b01 : Below wr.heap.size wr W1 := by rw [← hW1]; exact (Below.refl _ _).alloc (Nat.le_refl _) _
      have P1 : Hid (Pz w w W1 (fun _ => False) c d s (DS.new 60)) := P.out.below b01
      have BX : Hid (Box W1 wr.heap.size #[.int .i64 kind, .int .i64 xn, .int .i64 bk, .slice da dl dc, .slice pa pl pc] 43) := by rw [← hW1]; exact box_new wr _ _
      have R1 : Hid (Rd .u8 W1 (.slice da dl dc) body) := HRD.out.below P1.out.below0
      have HPK := hideP (pickK_any kind 2 (by decide) (by decide) HWK.out W1)
      obtain ⟨pp, hpp⟩ : ∃ p, Hid (pk kind 2 = p) := ⟨_, rfl⟩
      have hp3 : pp < 2 := by rw [← hpp.out]; exact pk_lt kind (by decide)
      rw [hpp.out] at HPK
      have q0 := BX.out.cell 0
      have q1 := BX.out.cell 1
      have q2 := BX.out.cell 2
      have q3 := BX.out.cell 3
      have q4 := BX.out.cell 4
      simp only [List.getElem?_toArray, List.getElem?_cons_zero, List.getElem?_cons_succ] at q0 q1 q2 q3 q4
      have HOP : Hid (∀ j, (Value.slice da dl dc).ownBlock = some j → body ≠ [] → j < w.heap.size ∨ False) := fun j hj h0 => .inl (HRD.out.blk_lt h0 hj)
      clear b01 hpp
      go_wp2_with fail
      refine HPK.out.mono ?_
      rintro e W1' ⟨rfl, rfl⟩
      clear HPK hW1 c0 c1 c2 c3 c4
      have hcase : pp = 0 ∨ pp = 1 := by omega
      rcases hcase with rfl | rfl
      · have HG := hideP (getP P1.out xn)
        go_wp2_with fail
        refine HG.out.mono ?_
        rintro e w3 ⟨u, rfl, _, p3, _⟩
        have P3 : Hid (Pz w w w3 (fun _ => False) c d (s.getS (DS.new 60) xn) (DS.new 60)) := p3
        clear p3 HG
        clear q0 q1 q2 q3 q4 BX R1 HRD HOP P1 P
        have HCL := hideP (ddirtyP P3.out)
        go_wp2_with fail
        refine HCL.out.mono ?_
        rintro e w4 ⟨v, rfl, ho4, hb4, _, p4⟩
        have P4 := hideP p4
        obtain ⟨va, vc, rfl⟩ : ∃ a cap, v = .slice a 0 cap := by
          obtain ⟨a, cap, e, _⟩ := ho4.rd
          rw [List.length_map, new_dirty] at e
          exact ⟨_, _, e⟩
        clear ho4 hb4 p4 HCL P3
        go_wp2_with fail
        go_roundw
        case rel => exact ⟨k + 1, _, by omega, by first | rfl | go_num, P4⟩
        case measure => simp [intOf]; omega
      · have HG := hideP (putP P1.out xn bk (.slice da dl dc) body R1.out HBD.out HOP.out)
        unfold blk at HG
        go_wp2_with fail
        refine HG.out.mono ?_
        rintro e w3 ⟨rfl, p3⟩
        have P3 : Hid (Pz w w w3 (fun _ => False) c d (s.putS 60 xn bk body) (DS.new 60)) := p3
        clear p3 HG
        clear q0 q1 q2 q3 q4 BX R1 HRD HOP P1 P
        have HCL := hideP (ddirtyP P3.out)
        go_wp2_with fail
        refine HCL.out.mono ?_
        rintro e w4 ⟨v, rfl, ho4, hb4, _, p4⟩
        have P4 := hideP p4
        obtain ⟨va, vc, rfl⟩ : ∃ a cap, v = .slice a 0 cap := by
          obtain ⟨a, cap, e, _⟩ := ho4.rd
          rw [List.length_map, new_dirty] at e
          exact ⟨_, _, e⟩
        clear ho4 hb4 p4 HCL P3
        go_wp2_with fail
        go_roundw
        case rel => exact ⟨k + 1, _, by omega, by first | rfl | go_num, P4⟩
        case measure => simp [intOf]; omega
    · have hki : ¬ (k : Int) < (len : Int) := by omega
      have hkd : decide (k < len) = false := by simp; omega
      have HDY := hideP (dirtyP P.out)
      go_wp2_with fail
      refine HDY.out.mono ?_
      rintro e w3 ⟨v, rfl, ho3, hb3, hf3, p3⟩
      have HVB : Hid (∀ k, v.ownBlock = some k → wr.heap.size ≤ k ∧ k < w3.heap.size) := fun k hk => ⟨hf3 k hk, ho3.lt k hk⟩
      have P3 : Hid (Pz w w3 w3 (fun k => False ∨ v.ownBlock = some k) c d s (DS.new 60)) := P.out.enter hb3 (fun k => v.ownBlock = some k) (fun k hk => ⟨hf3 k hk, ho3.lt k hk⟩)
      have O3 : Hid (OwnsK w3 v (s.d.map Int.ofNat)) := ho3
      have HF := hideP (flushP P3.out (fun i => by show 0 + 4096 < _; omega))
      obtain ⟨va, vm, vc, rfl⟩ : ∃ a m cap, v = .slice a m cap := by obtain ⟨a, c, e, _⟩ := ho3.rd; exact ⟨_, _, _, e⟩
      clear ho3 hb3 hf3 p3 HDY
      go_wp2_with fail
      refine HF.out.mono ?_
      rintro e w4 ⟨rfl, p4⟩
      have O4 : Hid (OwnsK w4 (.slice va vm vc) (s.d.map Int.ofNat)) := by
        have h' : w3.ownsRow 0 3 1 (.slice va vm vc) (s.d.map Int.ofNat).length ((s.d.map Int.ofNat).map (Value.int .i64)) := O3.out
        refine ⟨h'.1, ?_⟩
        rcases h'.2 with h0 | ⟨g, cap, cur, hv, hb, hg, rest⟩
        · exact .inl h0
        · exact .inr ⟨g, cap, cur, hv, hb, by rw [p4.keep (k := g) (.inr (by rw [hv]; rfl))]; exact hg, rest⟩
      have P4 : Hid (Pz w w w4 (fun _ => False) c d s.flush (s.flushD (DS.new 60))) := p4.leave
      have HDD := hideP (ddirtyP P4.out)
      rw [flushed_dirty P3.out.ok] at HDD
      clear p4 HF O3 P3 HVB P
      go_wp2_with fail
      refine HDD.out.mono ?_
      rintro e w5 ⟨u, rfl, ho5, hb5, _, p5⟩
      have P5 := hideP p5
      have HNU := hideP (numbersK_any u (.slice va vm vc) (s.d.map Int.ofNat) w5 ho5.rd (O4.out.below hb5).rd)
      obtain ⟨ua, um, uc, rfl⟩ : ∃ a m cap, u = .slice a m cap := by obtain ⟨a, c, e, _⟩ := ho5.rd; exact ⟨_, _, _, e⟩
      clear ho5 hb5 p5 HDD P4 O4
      go_wp2_with fail
      refine HNU.out.mono ?_
      rintro e w6 ⟨rfl, hb6⟩
      have P6 : Hid (Pz w w w6 (fun _ => False) c d s.flush (s.flushD (DS.new 60))) := P5.out.below hb6
      have HDY := hideP (dirtyP P6.out)
      rw [flush_d] at HDY
      clear hb6 HNU P5
      go_wp2_with fail
      refine HDY.out.mono ?_
      rintro e w7 ⟨v7, rfl, ho7, _, _, p7⟩
      have P7 := hideP p7
      obtain ⟨za, zc, rfl⟩ : ∃ a cap, v7 = .slice a 0 cap := by obtain ⟨a, cap, e, _⟩ := ho7.rd; exact ⟨_, _, e⟩
      clear ho7 p7 HDY P6
      go_wp2_with fail
      refine (HLV.out _).mono ?_
      rintro e wA ⟨rfl, hbA⟩
      have BA : Hid (Below w.heap.size w wA) := P7.out.below0.trans (hbA.mono P7.out.below0.size)
      clear hbA
      go_wp2_with fail
      go_ret
      exact ⟨rfl, BA.out⟩
end Go.Proofs.Ytgpaklifjonlkaa
