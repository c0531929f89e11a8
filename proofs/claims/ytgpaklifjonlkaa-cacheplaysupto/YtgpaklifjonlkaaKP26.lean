import Derived.Test.YtgpaklifjonlkaaKP24
import Derived.Test.YtgpaklifjonlkaaKP25
import Derived.Test.YtgpaklifjonlkaaKP20
import Derived.Test.YtgpaklifjonlkaaKP21
/-
  All dirty blocks are written.
-/
namespace Go.Proofs.Ytgpaklifjonlkaa
open Go.RowKit Go.Maps
set_option linter.unusedVariables false
set_option linter.unusedSimpArgs false
set_option maxRecDepth 100000

theorem flS_app (s : CS) (l : List Nat) (n : Nat) : flS s (l ++ [n]) = (flS s l).keep n ((flS s l).B n) := by
  induction l generalizing s with
  | nil => rfl
  | cons a r ih => exact ih _
theorem flD_app (D : DS) (B : Nat → Int × List Int) (l : List Nat) (n : Nat) : flD D B (l ++ [n]) = (flD D B l).wr n (sec (n : Int) (B n).1 (B n).2) := by
  induction l generalizing D with
  | nil => rfl
  | cons a r ih => exact ih _
theorem flS_B (s : CS) (l : List Nat) : (flS s l).B = s.B := by
  induction l generalizing s with
  | nil => rfl
  | cons a r ih =>
    refine (ih _).trans ?_
    show bput s.B a (s.B a) = s.B
    exact bput_self _ _
theorem flS_d (s : CS) (l : List Nat) {m : Nat} : m ∈ (flS s l).d ↔ m ∈ s.d ∧ m ∉ l := by
  induction l generalizing s with
  | nil => simp [flS]
  | cons a r ih =>
    rw [flS, ih]
    show m ∈ kwo s.d a ∧ _ ↔ _
    rw [kwo_mem]
    simp only [List.mem_cons, not_or]
    constructor
    · rintro ⟨⟨h1, h2⟩, h3⟩
      exact ⟨h1, fun e => h2 (by omega), h3⟩
    · rintro ⟨h1, h2, h3⟩
      exact ⟨⟨h1, fun e => h2 (by omega)⟩, h3⟩
theorem wr_LK (D : DS) (n : Nat) (x : List Int) : (D.wr n x).L = D.L := by
  unfold DS.wr
  split <;> rfl
theorem wr_V (D : DS) (n : Nat) (x : List Int) (i : Nat) : ((D.wr n x).V i).length ≤ (D.V i).length + 1 := by
  unfold DS.wr
  split
  · show (vput D.V n (D.V n ++ [x]) i).length ≤ _
    unfold vput
    split
    · rename_i h; rw [h]; simp
    · omega
  · omega
theorem flD_L (D : DS) (B : Nat → Int × List Int) (l : List Nat) : (flD D B l).L = D.L := by
  induction l generalizing D with
  | nil => rfl
  | cons a r ih => exact (ih _).trans (wr_LK _ _ _)
theorem flD_V (D : DS) (B : Nat → Int × List Int) (l : List Nat) (i : Nat) : ((flD D B l).V i).length ≤ (D.V i).length + l.length := by
  induction l generalizing D with
  | nil => simp [flD]
  | cons a r ih =>
    have h1 := ih (D.wr a (sec (a : Int) (B a).1 (B a).2))
    have h2 := wr_V D a (sec (a : Int) (B a).1 (B a).2) i
    simp only [flD, List.length_cons]
    omega

/-- The cache and its disk. -/
structure Cz (X S : Nat → Prop) (w : World) (c d N : Nat) (s : CS) (D : DS) : Prop where
  ch : Ch X w c d N s
  dk : Dk S w d D
  len : D.L.length = N
  ap : ∀ k, X k → ¬ S k
def CzTo (X S : Nat → Prop) (w w' : World) (c d N : Nat) (s : CS) (D : DS) : Prop :=
  ∃ X' S', Cz X' S' w' c d N s D ∧ Tch (fun k => X k ∨ S k) w w' ∧ (∀ k, X' k → X k ∨ w.heap.size ≤ k) ∧ (∀ k, S' k → S k ∨ w.heap.size ≤ k)

section
variable {X S : Nat → Prop} {w w' : World} {c d N : Nat} {s s' : CS} {D D' : DS}
theorem Cz.tch (h : Cz X S w c d N s D) {R : Nat → Prop} (ht : Tch R w w') (hX : ∀ k, X k → ¬ R k) (hS : ∀ k, S k → ¬ R k) : Cz X S w' c d N s D := ⟨h.ch.tch ht hX, h.dk.tch ht hS, h.len, h.ap⟩
theorem Cz.below (h : Cz X S w c d N s D) (hb : Below w.heap.size w w') : Cz X S w' c d N s D := h.tch (R := fun _ => False) (Tch.of_below hb) (fun _ _ e => e) (fun _ _ e => e)
theorem Cz.to (h : Cz X S w c d N s D) : CzTo X S w w c d N s D := ⟨X, S, h, Tch.refl _ _, fun _ e => .inl e, fun _ e => .inl e⟩
theorem Cz.chTo (h : Cz X S w c d N s D) (hc : ChTo X w w' c d N s') : CzTo X S w w' c d N s' D := by
  obtain ⟨X', h1, h2, h3⟩ := hc
  refine ⟨X', S, ⟨h1, h.dk.tch h2 (fun k hk e => h.ap k e hk), h.len, fun k hk hs => ?_⟩, h2.mono (fun k _ e => .inl e), h3, fun k e => .inl e⟩
  rcases h3 k hk with e | e
  · exact h.ap k e hs
  · have := h.dk.slt k hs; omega
theorem Cz.dkTo (h : Cz X S w c d N s D) (hd : DkTo S w w' d D') (hl : D'.L.length = N) : CzTo X S w w' c d N s D' := by
  obtain ⟨S', h1, h2, h3⟩ := hd
  refine ⟨X, S', ⟨h.ch.tch h2 (fun k hk e => h.ap k hk e), h1, hl, fun k hk hs => ?_⟩, h2.mono (fun k _ e => .inr e), fun k e => .inl e, h3⟩
  rcases h3 k hs with e | e
  · exact h.ap k hk e
  · have := h.ch.lt k hk; omega
theorem CzTo.after {X0 S0 : Nat → Prop} {w0 : World} (ht : Tch (fun k => X0 k ∨ S0 k) w0 w) (hx : ∀ k, X k → X0 k ∨ w0.heap.size ≤ k) (hs : ∀ k, S k → S0 k ∨ w0.heap.size ≤ k) (h : CzTo X S w w' c d N s D) : CzTo X0 S0 w0 w' c d N s D := by
  obtain ⟨X', S', h1, h2, h3, h4⟩ := h
  refine ⟨X', S', h1, ht.trans h2 (fun k hk e => ?_), fun k hk => ?_, fun k hk => ?_⟩
  · rcases e with e | e
    · rcases hx k e with e | e
      · exact .inl e
      · omega
    · rcases hs k e with e | e
      · exact .inr e
      · omega
  · rcases h3 k hk with e | e
    · exact hx k e
    · exact .inr (Nat.le_trans ht.size e)
  · rcases h4 k hk with e | e
    · exact hs k e
    · exact .inr (Nat.le_trans ht.size e)
end

set_option maxHeartbeats 1000000 in
theorem flushK_any {X S : Nat → Prop} {c d N : Nat} {s : CS} {D : DS} (w : World) (hZ : Cz X S w c d N s D) (hV : ∀ i, (D.V i).length + 4096 < 274877906943) :
    Calls Try.prog 21 #[cp c] w fun e w' => e = .returned (.int .i64 0) ∧ CzTo X S w w' c d N s.flush (s.flushD D) := by
  have HZ : Hid (Cz X S w c d N s D) := hZ
  have HV : Hid (∀ i, (D.V i).length + 4096 < 274877906943) := hV
  have HDY := hideP (dirtyK_any w hZ.ch)
  have HOK : Hid (COk N s) := hZ.ch.ok
  have HN2 : Hid (N ≤ 4096) := hZ.ch.n2
  clear hZ hV
  go_enter Try.func21, Try.ntmps21
  go_wp2_with fail
  refine HDY.out.mono ?_
  rintro e w1 ⟨dv, rfl, ho1, hb1, hf1⟩
  have B1 : Hid (Below w.heap.size w w1) := hb1
  have Z1 : Hid (Cz X S w1 c d N s D) := HZ.out.below hb1
  have F1 : Hid (∀ k, dv.ownBlock = some k → w.heap.size ≤ k ∧ k < w1.heap.size) := fun k hk => ⟨hf1 k hk, ho1.lt k hk⟩
  obtain ⟨da, dc, hdv, hdl, hdm, hdn, hdc⟩ := ho1.rd
  rw [List.length_map] at hdv hdl hdc
  subst hdv
  have HDC : Hid ((s.d.map Int.ofNat) = [] ∨ ∃ b o, da = some ⟨b, o, none⟩ ∧ ∀ i, i < s.d.length → w1.cell? ⟨b, o + i, none⟩ = some (.int .i64 ((s.d.map Int.ofNat).getD i 0))) := hdc
  obtain ⟨t, ht⟩ : ∃ t, s.d.length = t := ⟨_, rfl⟩
  have HT : Hid (s.d.length = t) := ht
  have htb : t ≤ 4096 := by rw [← ht]; exact Nat.le_trans HOK.out.dle HN2.out
  rw [ht] at HDC F1 ⊢
  clear ho1 hb1 hf1 hdl hdm hdn hdc ht HDY
  go_wp2_with fail
  go_loopw [10] (fun kv wr => ∃ (k : Nat), k ≤ t ∧ kv = .int .i64 k ∧ Hid (CzTo X S w1 wr c d N (flS s (s.d.take k)) (flD D s.B (s.d.take k)))) (fun kv _ => t - (intOf kv).toNat)
  case atStart => exact ⟨0, Nat.zero_le _, rfl, by rw [List.take_zero]; exact Z1.out.to⟩
  case round =>
    obtain ⟨j, hj, rfl, ZK⟩ := hrel
    by_cases hjt : j < t
    · have hji : (j : Int) < (t : Int) := by omega
      have hj0 : (0 : Int) ≤ (j : Int) := by omega
      obtain ⟨Xj, Sj, hZj, hTj, hXj, hSj⟩ := ZK.out
      obtain ⟨db, dO, rfl, hcell⟩ : ∃ b o, da = some ⟨b, o, none⟩ ∧ ∀ i, i < t → w1.cell? ⟨b, o + i, none⟩ = some (.int .i64 ((s.d.map Int.ofNat).getD i 0)) := by
        rcases HDC.out with e | e
        · have := congrArg List.length e
          rw [List.length_map, HT.out] at this
          simp at this
          omega
        · exact e
      have hF := F1.out db rfl
      have ck : wr.cell? ⟨db, dO + j, none⟩ = some (.int .i64 ((s.d.getD j 0 : Nat) : Int)) := by
        have h0 := hcell j hjt
        rw [hTj.cell (p := ⟨db, dO + j, none⟩) (World.block_lt_of_cell? w1 ⟨db, dO + j, none⟩ h0) (fun e => by
          rcases e with e | e
          · have := HZ.out.ch.lt db e; have := hF.1; omega
          · have := HZ.out.dk.slt db e; have := hF.1; omega), h0]
        rw [getD_ofNat]
      obtain ⟨n, hn⟩ : ∃ n, s.d.getD j 0 = n := ⟨_, rfl⟩
      rw [hn] at ck
      have hjl : j < s.d.length := by rw [HT.out]; exact hjt
      have hgn : s.d[j] = n := by rw [← hn, List.getD_eq_getElem?_getD, List.getElem?_eq_getElem hjl]; rfl
      have hmem : n ∈ s.d := by rw [← hgn]; exact List.getElem_mem hjl
      have htk : s.d.take (j + 1) = s.d.take j ++ [n] := by rw [List.take_add_one, List.getElem?_eq_getElem hjl, hgn]; rfl
      have hnot : n ∉ s.d.take j := fun e => by
        have hnd := rising_nodup HOK.out.dr
        rw [← List.take_append_drop (j + 1) s.d, htk] at hnd
        have h1 := (List.nodup_append.1 (List.nodup_append.1 hnd).1).2.2 n e n (by simp)
        exact h1 rfl
      obtain ⟨sj, hsj⟩ : ∃ sj, flS s (s.d.take j) = sj := ⟨_, rfl⟩
      obtain ⟨Dj, hDj⟩ : ∃ Dj, flD D s.B (s.d.take j) = Dj := ⟨_, rfl⟩
      have hBj : sj.B = s.B := by rw [← hsj]; exact flS_B _ _
      have hdj : n ∈ sj.d := by rw [← hsj]; exact (flS_d _ _).2 ⟨hmem, hnot⟩
      rw [hsj, hDj] at hZj
      have hVj : ∀ i, (Dj.V i).length < 274877906943 := fun i => by
        rw [← hDj]
        have h1 := flD_V D s.B (s.d.take j) i
        have h2 := HV.out i
        have h3 : (s.d.take j).length ≤ t := by rw [List.length_take]; omega
        omega
      have HNX : Hid (flS s (s.d.take (j + 1)) = sj.keep n (sj.B n) ∧ flD D s.B (s.d.take (j + 1)) = Dj.wr n (sec (n : Int) (sj.B n).1 (sj.B n).2)) := by
        refine ⟨?_, ?_⟩
        · rw [htk, flS_app, hsj]
        · rw [htk, flD_app, hDj, hBj]
      have HZJ : Hid (Cz Xj Sj wr c d N sj Dj) := hZj
      have HTJ : Hid (Tch (fun k => X k ∨ S k) w1 wr ∧ (∀ k, Xj k → X k ∨ w1.heap.size ≤ k) ∧ (∀ k, Sj k → S k ∨ w1.heap.size ≤ k)) := ⟨hTj, hXj, hSj⟩
      obtain ⟨mb, av, V, h⟩ := hZj.ch
      have H : Hid (ChAt Xj wr c d N sj mb av V) := h
      have hnn := h.ok.dl n hdj
      have hn2 := h.n2
      have LK := h.map.lookH (i := n) (.inl hnn.2) (by omega)
      obtain ⟨k, hk⟩ : ∃ k, (sj.B n).1 = k := ⟨_, rfl⟩
      obtain ⟨ys, hys⟩ : ∃ ys, (sj.B n).2 = ys := ⟨_, rfl⟩
      obtain ⟨v, hv⟩ : ∃ v, V n = v := ⟨_, rfl⟩
      have eg : kg sj V n = some (hent k v true) := by unfold kg; rw [if_pos hdj, hk, hv]
      unfold gh at LK
      rw [eg] at LK
      simp only [Option.getD_some] at LK
      unfold hent at LK
      have R1 : Rd .u8 wr v ys := by have := h.bod n (.inl hdj); rw [hys, hv] at this; exact this
      have HMY : Hid ((50 ≤ n ∧ n < N) ∧ mayK (n : Int) k ys.length = true ∧ By ys ∧ sj.B n = (k, ys) ∧ n < Dj.L.length ∧ ∀ i, (Dj.V i).length < 274877906943) := by
        have hm := h.ok.may n (.inl hdj)
        rw [hk, hys] at hm
        exact ⟨hnn, hm.1, hm.2, by rw [← hk, ← hys], by rw [hZj.len]; exact hnn.2, hVj⟩
      have HBP : Hid (∀ i, v.ownBlock = some i → ys ≠ [] → Xj i ∧ i ≠ c ∧ i ≠ mb ∧ av.ownBlock ≠ some i) := fun i hi h0 => h.bap n (.inl hdj) i (by rw [hv]; exact hi) (by rw [hys]; exact h0)
      obtain ⟨a, m, cap, rfl⟩ : ∃ a m cap, v = .slice a m cap := by obtain ⟨a, c, e, _⟩ := R1; exact ⟨_, _, _, e⟩
      obtain ⟨W2, hW2⟩ : ∃ W2, wr.alloc (.cells #[.int .i64 k, .slice a m cap] 40) = W2 := ⟨_, rfl⟩
      have B2 : Hid (Below wr.heap.size wr W2) := by rw [← hW2]; exact (Below.refl _ _).alloc (Nat.le_refl _) _
      have Q2 : Hid (Bkv W2 wr.heap.size k (.slice a m cap)) := by rw [← hW2]; exact bkv_new wr _ _
      have H2 : Hid (ChAt Xj W2 c d N sj mb av V) := h.tch (R := fun _ => False) (Tch.of_below B2.out) (fun _ _ e => e)
      have R2 : Hid (Rd .u8 W2 (.slice a m cap) ys) := R1.below B2.out
      have HW := hideP (writeK_any n k (.slice a m cap) ys W2 H2.out.c0 (HZJ.out.dk.below B2.out) HMY.out.2.2.2.2.1 HMY.out.2.1 R2.out HMY.out.2.2.1 (fun e => HZJ.out.ap c H.out.xc e) HMY.out.2.2.2.2.2)
      have hfb := fun W => field_block k (.slice a m cap) true W
      have c2 := h.c2
      have q0 := Q2.out.c0
      have q1 := Q2.out.c1
      have hn4 : (n : Int) < 4096 := by omega
      unfold blk at HW
      clear h hnn hn2 hk hys hv eg R1 hZj hTj hXj hSj hcell hF hn hjl hgn hmem htk hnot hsj hDj hBj hdj hVj
      go_wp2_with fail
      refine HW.out.mono ?_
      rintro e w3 ⟨rfl, h3⟩
      have Z3 : Hid (CzTo Xj Sj W2 w3 c d N sj (Dj.wr n (sec (n : Int) k ys))) := Cz.dkTo (HZJ.out.below B2.out) h3 (by rw [wr_LK]; exact HZJ.out.len)
      obtain ⟨S3, hd3, t3, hs3⟩ := h3
      have H3 : Hid (ChAt Xj w3 c d N sj mb av V) := H2.out.tch t3 (fun i hi e => HZJ.out.ap i hi e)
      have Q3 : Hid (Bkv w3 wr.heap.size k (.slice a m cap)) := Q2.out.tch t3 (fun e => by have := HZJ.out.dk.slt _ e; omega)
      have R3 : Hid (Rd .u8 w3 (.slice a m cap) ys) := R2.out.tch0 t3 (fun i hi h0 e => HZJ.out.ap i (HBP.out i hi h0).1 e)
      have HKP := hideP (keep_any n k (.slice a m cap) ys w3 H3.out HMY.out.1 HMY.out.2.1 HMY.out.2.2.1 R3.out HBP.out)
      have HD3 : Hid (Cz Xj S3 w3 c d N sj (Dj.wr n (sec (n : Int) k ys)) ∧ Tch Sj W2 w3 ∧ ∀ i, S3 i → Sj i ∨ W2.heap.size ≤ i) := by
        refine ⟨⟨⟨_, _, _, H3.out⟩, hd3, by rw [wr_LK]; exact HZJ.out.len, fun i hi hs => ?_⟩, t3, hs3⟩
        rcases hs3 i hs with e | e
        · exact HZJ.out.ap i hi e
        · have := H2.out.xlt i hi; omega
      have z0 := Q3.out.c0
      have z1 := Q3.out.c1
      unfold blk at HKP
      clear hd3 t3 hs3 HW LK hfb c2 q0 q1 hW2 Z3 Q2 R2 H3 R3
      go_wp2_with fail
      refine HKP.out.mono ?_
      rintro e w4 ⟨rfl, h4, _⟩
      have Z4 : Hid (CzTo X S w1 w4 c d N (flS s (s.d.take (j + 1))) (flD D s.B (s.d.take (j + 1)))) := by
        rw [HNX.out.1, HNX.out.2, HMY.out.2.2.2.1]
        have z := Cz.chTo HD3.out.1 h4
        have z2 : CzTo Xj Sj wr w4 c d N (sj.keep n (k, ys)) (Dj.wr n (sec (n : Int) k ys)) := by
          refine CzTo.after (X := Xj) (S := S3) ?_ (fun i hi => .inl hi) (fun i hi => ?_) z
          · exact (Tch.of_below B2.out).trans (HD3.out.2.1.mono (fun i _ e => .inr e)) (fun _ _ e => e)
          · rcases HD3.out.2.2 i hi with e | e
            · exact .inl e
            · exact .inr (Nat.le_trans B2.out.size e)
        exact CzTo.after HTJ.out.1 HTJ.out.2.1 HTJ.out.2.2 z2
      clear h4 HKP z0 z1 Q3 HD3 H H2 HBP HMY HNX HTJ HZJ
      go_wp2_with fail
      go_roundw
      case rel => exact ⟨j + 1, by omega, by go_num, Z4⟩
      case measure => simp [intOf]; omega
    · have hjn : ¬ (j : Int) < (t : Int) := by omega
      have HF : Hid (CzTo X S w wr c d N s.flush (s.flushD D)) := by
        have h1 := ZK.out
        rw [List.take_of_length_le (by rw [HT.out]; omega)] at h1
        exact CzTo.after (X := X) (S := S) (Tch.of_below B1.out) (fun k hk => .inl hk) (fun k hk => .inl hk) h1
      clear ZK
      go_wp2_with fail
      go_ret
      exact ⟨rfl, HF.out⟩
end Go.Proofs.Ytgpaklifjonlkaa
/-
  The program's cache and its disk, and what lies beside them.
-/
namespace Go.Proofs.Ytgpaklifjonlkaa
open Go.RowKit Go.Maps
set_option linter.unusedVariables false
set_option linter.unusedSimpArgs false
set_option maxRecDepth 100000

/-- The cache is s, its disk D; nothing older than w0 has turned; the blocks Z are as they were in wz. -/
def Pz (w0 wz w : World) (Z : Nat → Prop) (c d : Nat) (s : CS) (D : DS) : Prop :=
  ∃ X S, Cz X S w c d 60 s D ∧ (∀ k, X k → w0.heap.size ≤ k) ∧ (∀ k, S k → w0.heap.size ≤ k) ∧ Below w0.heap.size w0 w ∧ wz.heap.size ≤ w.heap.size ∧
    ∀ k, Z k → k < wz.heap.size ∧ w.heap[k]? = wz.heap[k]? ∧ ¬ X k ∧ ¬ S k

section
variable {w0 wz w w' : World} {Z : Nat → Prop} {c d : Nat} {s s' : CS} {D D' : DS}
theorem Pz.ok (H : Pz w0 wz w Z c d s D) : COk 60 s := by obtain ⟨X, S, h, _⟩ := H; exact h.ch.ok
theorem Pz.len (H : Pz w0 wz w Z c d s D) : D.L.length = 60 := by obtain ⟨X, S, h, _⟩ := H; exact h.len
theorem Pz.below0 (H : Pz w0 wz w Z c d s D) : Below w0.heap.size w0 w := by obtain ⟨X, S, _, _, _, h, _⟩ := H; exact h
theorem Pz.keep (H : Pz w0 wz w Z c d s D) {k : Nat} (hk : Z k) : w.heap[k]? = wz.heap[k]? := by obtain ⟨X, S, _, _, _, _, _, h⟩ := H; exact (h k hk).2.1
theorem Pz.has_ok (H : Pz w0 wz w Z c d s D) {i : Nat} (hi : i < 60) : (D.has i).length = 256 ∧ By (D.has i) := by obtain ⟨X, S, h, _⟩ := H; exact h.dk.has_ok (by rw [h.len]; exact hi)

/-- The blocks' sides. -/
structure Sd (w0 wz w : World) (Z X S : Nat → Prop) : Prop where
  x0 : ∀ k, X k → w0.heap.size ≤ k
  s0 : ∀ k, S k → w0.heap.size ≤ k
  be : Below w0.heap.size w0 w
  z0 : wz.heap.size ≤ w.heap.size
  zz : ∀ k, Z k → k < wz.heap.size ∧ w.heap[k]? = wz.heap[k]? ∧ ¬ X k ∧ ¬ S k
theorem Pz.open (H : Pz w0 wz w Z c d s D) : ∃ X S, Cz X S w c d 60 s D ∧ Sd w0 wz w Z X S := by
  obtain ⟨X, S, hc, h1, h2, h3, h4, h5⟩ := H
  exact ⟨X, S, hc, h1, h2, h3, h4, h5⟩
theorem Sd.step {X S : Nat → Prop} (H : Sd w0 wz w Z X S) (h : CzTo X S w w' c d 60 s' D') : Pz w0 wz w' Z c d s' D' := by
  obtain ⟨hx0, hs0, hb, hz, hZ⟩ := H
  obtain ⟨X', S', hc', ht, hx', hs'⟩ := h
  have hsz := ht.size
  have hbz := hb.size
  refine ⟨X', S', hc', fun k hk => ?_, fun k hk => ?_, hb.trans (ht.below hb.size (fun k e => e.elim (hx0 k) (hs0 k))), by omega, fun k hk => ?_⟩
  · rcases hx' k hk with e | e
    · exact hx0 k e
    · omega
  · rcases hs' k hk with e | e
    · exact hs0 k e
    · omega
  · obtain ⟨h1, h2, h3, h4⟩ := hZ k hk
    refine ⟨h1, ?_, fun e => ?_, fun e => ?_⟩
    · rw [ht.block k (by omega) (fun e => e.elim h3 h4)]; exact h2
    · rcases hx' k e with e | e
      · exact h3 e
      · omega
    · rcases hs' k e with e | e
      · exact h4 e
      · omega
/-- What is new is beside them, too. -/
theorem Pz.enter (H : Pz w0 wz w Z c d s D) (hb : Below w.heap.size w w') (Z' : Nat → Prop) (hZ' : ∀ k, Z' k → w.heap.size ≤ k ∧ k < w'.heap.size) : Pz w0 w' w' (fun k => Z k ∨ Z' k) c d s D := by
  obtain ⟨X, S, hc, hx0, hs0, hb0, hz, hZ⟩ := H
  have hT := Tch.of_below (S := fun _ => False) hb
  refine ⟨X, S, hc.below hb, hx0, hs0, hb0.trans (hT.below hb0.size (fun k e => e.elim)), Nat.le_refl _, fun k hk => ?_⟩
  rcases hk with hk | hk
  · obtain ⟨h1, h2, h3, h4⟩ := hZ k hk
    have := hb.size
    exact ⟨by omega, rfl, h3, h4⟩
  · refine ⟨(hZ' k hk).2, rfl, fun e => ?_, fun e => ?_⟩
    · have := hc.ch.lt k e; have := (hZ' k hk).1; omega
    · have := hc.dk.slt k e; have := (hZ' k hk).1; omega
theorem Pz.less (H : Pz w0 wz w Z c d s D) {Z' : Nat → Prop} (h : ∀ k, Z' k → Z k) : Pz w0 wz w Z' c d s D := by
  obtain ⟨X, S, hc, hx0, hs0, hb0, hz, hZ⟩ := H
  exact ⟨X, S, hc, hx0, hs0, hb0, hz, fun k hk => hZ k (h k hk)⟩
theorem Pz.leave (H : Pz w0 wz w Z c d s D) : Pz w0 w0 w (fun _ => False) c d s D := by
  obtain ⟨X, S, hc, hx0, hs0, hb0, hz, hZ⟩ := H
  exact ⟨X, S, hc, hx0, hs0, hb0, hb0.size, fun k hk => hk.elim⟩
theorem Pz.still (H : Pz w0 wz w Z c d s D) (ht : Tch (fun _ => False) w w') : Pz w0 wz w' Z c d s D := by
  obtain ⟨X, S, hc, hS⟩ := H.open
  exact hS.step ⟨X, S, hc.tch ht (fun _ _ e => e) (fun _ _ e => e), ht.mono (fun _ _ e => e.elim), fun _ e => .inl e, fun _ e => .inl e⟩
theorem Pz.below (H : Pz w0 wz w Z c d s D) (hb : Below w.heap.size w w') : Pz w0 wz w' Z c d s D := H.still (Tch.of_below hb)
theorem Pz.drew (H : Pz w0 wz w Z c d s D) (q : Nat) : Pz w0 wz (w.drewN q) Z c d s D := H.still ⟨rfl, rfl, rfl, Nat.le_refl _, fun _ _ _ => rfl⟩
theorem Pz.drew1 (H : Pz w0 wz w Z c d s D) : Pz w0 wz w.drew Z c d s D := H.still ⟨rfl, rfl, rfl, Nat.le_refl _, fun _ _ _ => rfl⟩
/-- A block beside them is written. -/
theorem Pz.side (H : Pz w0 wz w Z c d s D) {T : Nat → Prop} (ht : Tch T w w') (hT : ∀ k, T k → Z k) (h0 : ∀ k, T k → w0.heap.size ≤ k) : Pz w0 w' w' Z c d s D := by
  obtain ⟨X, S, hc, hx0, hs0, hb0, hz, hZ⟩ := H
  have := ht.size
  refine ⟨X, S, hc.tch ht (fun k hk e => (hZ k (hT k e)).2.2.1 hk) (fun k hk e => (hZ k (hT k e)).2.2.2 hk), hx0, hs0, hb0.trans (ht.below hb0.size (fun k e => h0 k e)), Nat.le_refl _, fun k hk => ?_⟩
  obtain ⟨h1, h2, h3, h4⟩ := hZ k hk
  exact ⟨by omega, rfl, h3, h4⟩

/-- As they are now. -/
theorem Pz.now (H : Pz w0 wz w Z c d s D) : Pz w0 w w Z c d s D := by
  obtain ⟨X, S, hc, hx0, hs0, hb0, hz, hZ⟩ := H
  exact ⟨X, S, hc, hx0, hs0, hb0, Nat.le_refl _, fun k hk => ⟨by have := (hZ k hk).1; omega, rfl, (hZ k hk).2.2⟩⟩
theorem putP (H : Pz w0 wz w Z c d s D) (n k : Int) (v : Value) (ys : List Int) (hr : Rd .u8 w v ys) (hb : By ys) (hv : ∀ j, v.ownBlock = some j → ys ≠ [] → j < w0.heap.size ∨ Z j) :
    Calls Try.prog 20 #[cp c, .int .i64 n, blk k v] w fun e w' => e = .returned (.int .i64 (s.putE 60 n k ys)) ∧ Pz w0 wz w' Z c d (s.putS 60 n k ys) D := by
  obtain ⟨X, S, hc, hS⟩ := H.open
  refine (putK_any n k v ys w hc.ch hc.dk hc.len hr hb (fun j hj h0 e => ?_)).mono ?_
  · rcases hv j hj h0 with h | h
    · have := hS.x0 j e; omega
    · exact (hS.zz j h).2.2.1 e
  · rintro e w' ⟨rfl, h⟩
    exact ⟨rfl, hS.step (hc.chTo h)⟩
theorem getP (H : Pz w0 wz w Z c d s D) (n : Int) :
    Calls Try.prog 22 #[cp c, .int .i64 n] w fun e w' => ∃ u, e = .returned (.tuple #[blk (s.getB D n).1 u, .int .i64 (s.getE D n)]) ∧ Nw w.heap.size w' u (s.getB D n).2 ∧ Pz w0 wz w' Z c d (s.getS D n) D ∧ Pz w0 w' w' (fun k => Z k ∨ (u.ownBlock = some k ∧ (s.getB D n).2 ≠ [])) c d (s.getS D n) D := by
  obtain ⟨X, S, hc, hS⟩ := H.open
  refine (getK_any n w hc.ch hc.dk hc.len).mono ?_
  rintro e w' ⟨u, rfl, hn, X', h1, h2, h3, h4⟩
  have hP : Pz w0 wz w' Z c d (s.getS D n) D := hS.step (hc.chTo ⟨X', h1, h2, h3⟩)
  refine ⟨u, rfl, hn, hP, ?_⟩
  have hsz := h2.size
  have hz0 := hS.z0
  have hb0 := hS.be.size
  refine ⟨X', S, ⟨h1, hc.dk.tch h2 (fun k hk e => hc.ap k e hk), hc.len, fun k hk hs => ?_⟩, fun k hk => ?_, hS.s0, hP.below0, Nat.le_refl _, fun k hk => ?_⟩
  · rcases h3 k hk with e | e
    · exact hc.ap k e hs
    · have := hc.dk.slt k hs; omega
  · rcases h3 k hk with e | e
    · exact hS.x0 k e
    · omega
  · rcases hk with hk | ⟨hk, h0⟩
    · obtain ⟨q1, q2, q3, q4⟩ := hS.zz k hk
      refine ⟨by omega, rfl, fun e => ?_, q4⟩
      rcases h3 k e with e | e
      · exact q3 e
      · omega
    · refine ⟨hn.rd.blk_lt h0 hk, rfl, h4 k hk, fun e => ?_⟩
      have := hn.new k hk
      have := hc.dk.slt k e
      omega
theorem forgetP (H : Pz w0 wz w Z c d s D) (n : Int) (hz : (Lit.int .i64 n).wf = true) :
    Calls Try.prog 24 #[cp c, .int .i64 n] w fun e w' => e = .returned (.tuple #[]) ∧ Pz w0 wz w' Z c d (s.forget n) D := by
  obtain ⟨X, S, hc, hS⟩ := H.open
  refine (forget_any n w hc.ch hz).mono ?_
  rintro e w' ⟨rfl, h⟩
  exact ⟨rfl, hS.step (hc.chTo h)⟩
theorem flushP (H : Pz w0 wz w Z c d s D) (hV : ∀ i, (D.V i).length + 4096 < 274877906943) :
    Calls Try.prog 21 #[cp c] w fun e w' => e = .returned (.int .i64 0) ∧ Pz w0 wz w' Z c d s.flush (s.flushD D) := by
  obtain ⟨X, S, hc, hS⟩ := H.open
  refine (flushK_any w hc hV).mono ?_
  rintro e w' ⟨rfl, h⟩
  exact ⟨rfl, hS.step h⟩
theorem dirtyP (H : Pz w0 wz w Z c d s D) :
    Calls Try.prog 13 #[cp c] w fun e w' => ∃ v, e = .returned v ∧ OwnsK w' v (s.d.map Int.ofNat) ∧ Below w.heap.size w w' ∧ (∀ k, v.ownBlock = some k → w.heap.size ≤ k) ∧ Pz w0 wz w' Z c d s D := by
  obtain ⟨X, S, hc, hS⟩ := H.open
  refine (dirtyK_any w hc.ch).mono ?_
  rintro e w' ⟨v, rfl, h1, h2, h3⟩
  exact ⟨v, rfl, h1, h2, h3, H.below h2⟩
theorem cleanP (H : Pz w0 wz w Z c d s D) :
    Calls Try.prog 15 #[cp c] w fun e w' => ∃ v, e = .returned v ∧ OwnsK w' v (s.c.map Int.ofNat) ∧ Below w.heap.size w w' ∧ (∀ k, v.ownBlock = some k → w.heap.size ≤ k) ∧ Pz w0 wz w' Z c d s D := by
  obtain ⟨X, S, hc, hS⟩ := H.open
  refine (clean_any w hc.ch).mono ?_
  rintro e w' ⟨v, rfl, h1, h2, h3⟩
  exact ⟨v, rfl, h1, h2, h3, H.below h2⟩
theorem readP (H : Pz w0 wz w Z c d s D) (n : Nat) (hn : n < 60) :
    Calls Try.prog 42 #[dp d, .int .i64 (n : Int)] w fun e w' => ∃ v, e = .returned (.tuple #[v, .int .i64 0]) ∧ Rd .u8 w' v (D.has n) ∧ Below w.heap.size w w' ∧ Pz w0 wz w' Z c d s D := by
  obtain ⟨X, S, hc, hS⟩ := H.open
  refine (read_ok n w hc.dk (by rw [hc.len]; exact hn)).mono ?_
  rintro e w' ⟨v, rfl, h1, h2, h3⟩
  exact ⟨v, rfl, h1.rd, h2, H.below h2⟩
theorem ddirtyP (H : Pz w0 wz w Z c d s D) :
    Calls Try.prog 16 #[dp d] w fun e w' => ∃ v, e = .returned v ∧ OwnsK w' v (D.dirty.map Int.ofNat) ∧ Below w.heap.size w w' ∧ (∀ k, v.ownBlock = some k → w.heap.size ≤ k) ∧ Pz w0 wz w' Z c d s D := by
  obtain ⟨X, S, hc, hS⟩ := H.open
  refine (dirty_any w hc.dk).mono ?_
  rintro e w' ⟨v, rfl, h1, h2, h3⟩
  exact ⟨v, rfl, h1, h2, h3, H.below h2⟩
end

/-- A new pair. -/
theorem Pz.start {w0 w1 w2 : World} {c d : Nat} {S X : Nat → Prop} {room : Nat} (hd : Dk S w1 d (DS.new 60)) (hb : Below w0.heap.size w0 w1) (hs : ∀ k, S k → w0.heap.size ≤ k) (hc : Ch X w2 c d 60 (CS.new room)) (hb2 : Below w1.heap.size w1 w2) (hx : ∀ k, X k → w1.heap.size ≤ k) : Pz w0 w0 w2 (fun _ => False) c d (CS.new room) (DS.new 60) := by
  have h1 := hb.size
  have h2 := hb2.size
  refine ⟨X, S, ⟨hc, hd.below hb2, by simp [DS.new], fun k hk e => ?_⟩, fun k hk => ?_, hs, hb.trans (hb2.mono hb.size), by omega, fun k hk => hk.elim⟩
  · have := hx k hk; have := hd.slt k e; omega
  · have := hx k hk; omega
end Go.Proofs.Ytgpaklifjonlkaa
/-
  What stays so, whatever is asked of a cache.
-/
namespace Go.Proofs.Ytgpaklifjonlkaa
open Go.RowKit
set_option linter.unusedVariables false

/-- No more clean ones than there is room for; the room is R. -/
def Rmy (R : Nat) (s : CS) : Prop := s.rm = R ∧ s.c.length ≤ R
theorem Rmy.keep {R : Nat} {s : CS} (h : Rmy R s) (n : Nat) (x : Int × List Int) : Rmy R (s.keep n x) := ⟨h.1, by show (kask s.rm s.c n).length ≤ R; rw [h.1]; exact kask_len h.2⟩
theorem Rmy.get {R : Nat} {s : CS} (h : Rmy R s) (D : DS) (n : Int) : Rmy R (s.getS D n) := by
  unfold CS.getS
  split
  · exact h.keep _ _
  · exact h
theorem Rmy.put {R : Nat} {s : CS} (h : Rmy R s) (N : Nat) (n k : Int) (ys : List Int) : Rmy R (s.putS N n k ys) := by
  unfold CS.putS
  split
  · exact ⟨h.1, Nat.le_trans (kwo_len s.c _) h.2⟩
  · exact h
theorem Rmy.fl {R : Nat} {s : CS} (h : Rmy R s) (l : List Nat) : Rmy R (flS s l) := by
  induction l generalizing s with
  | nil => exact h
  | cons a r ih => exact ih (h.keep _ _)
theorem Rmy.flush {R : Nat} {s : CS} (h : Rmy R s) : Rmy R s.flush := h.fl _
theorem Rmy.forget {R : Nat} {s : CS} (h : Rmy R s) (n : Int) : Rmy R (s.forget n) := ⟨h.1, Nat.le_trans (kwo_len s.c n) h.2⟩
theorem Rmy.new (R : Nat) : Rmy R (CS.new R) := ⟨rfl, Nat.zero_le _⟩

/-- So few versions. -/
def Few (D : DS) (k : Nat) : Prop := ∀ i, (D.V i).length ≤ k * 4096
theorem Few.more {D : DS} {k : Nat} (h : Few D k) : Few D (k + 1) := fun i => Nat.le_trans (h i) (Nat.mul_le_mul_right _ (Nat.le_succ k))
theorem Few.flush {D : DS} {k : Nat} (h : Few D k) {s : CS} (ho : COk 60 s) : Few (s.flushD D) (k + 1) := fun i => by
  have h1 := flD_V D s.B s.d i
  have h2 := h i
  have h3 := ho.dle
  show ((flD D s.B s.d).V i).length ≤ _
  omega
theorem few_new (k : Nat) : Few (DS.new 60) k := fun i => Nat.zero_le _

/-- A variable that is a row of cells. -/
def Box (w : World) (q : Nat) (cs : Array Value) (t : TypeId) : Prop := w.heap[q]? = some (.cells cs t (0, 0))
theorem Box.cell {w : World} {q : Nat} {cs : Array Value} {t : TypeId} (h : Box w q cs t) (i : Nat) : w.cell? ⟨q, i, none⟩ = cs[i]? := cell_of_row w q i _ _ (0, 0) h
theorem box_new (w : World) (cs : Array Value) (t : TypeId) : Box (w.alloc (.cells cs t)) w.heap.size cs t := heap_alloc_new w _
end Go.Proofs.Ytgpaklifjonlkaa
