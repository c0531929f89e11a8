/-
  Runs of free numbers: the program's.
-/
import Derived.Test.YtamgogkkcbeaaaaARow
import Derived.Test.YtamgogkkcbeaaaaARef3
namespace Go.Proofs.Ytamgogkkcbeaaaa
open Go.RowKit Ah
set_option linter.unusedVariables false
set_option maxRecDepth 100000

namespace Ah
abbrev G2 (l : List (Int × Int)) (i : Nat) : Int × Int := l.getD i (0, 0)
/-- The last run is longer by one. -/
def bump (l : List (Int × Int)) : List (Int × Int) := l.set (l.length - 1) ((G2 l (l.length - 1)).1, (G2 l (l.length - 1)).2 + 1)
theorem bump_len (l : List (Int × Int)) : (bump l).length = l.length := by simp [bump]
theorem bump_snoc (l : List (Int × Int)) (a b : Int) : bump (l ++ [(a, b)]) = l ++ [(a, b + 1)] := by
  unfold bump G2
  simp

/-- The runs of the first k. -/
def rr (lo : Nat) (L : List Int) : Nat → List (Int × Int)
  | 0 => []
  | k + 1 => if G L k = 0 then (if 0 < k ∧ G L (k - 1) = 0 then bump (rr lo L k) else rr lo L k ++ [(((lo + k : Nat) : Int), 1)]) else rr lo L k

theorem rr_len (lo : Nat) (L : List Int) (k : Nat) : (rr lo L k).length ≤ k := by
  induction k with
  | zero => simp [rr]
  | succ k ih =>
    simp only [rr]
    split
    · split
      · rw [bump_len]; omega
      · simp; omega
    · omega

theorem rr_ne (lo : Nat) (L : List Int) (k : Nat) (h : G L k = 0) : 0 < (rr lo L (k + 1)).length := by
  induction k with
  | zero =>
    simp only [rr]
    rw [if_pos h, if_neg (by omega)]
    simp
  | succ k ih =>
    simp only [rr] at ih ⊢
    rw [if_pos h]
    split
    · rename_i hc
      rw [bump_len]
      have := ih (by simpa using hc.2)
      exact this
    · simp

theorem bump_bd {l : List (Int × Int)} {B : Int} (h : ∀ p ∈ l, 0 ≤ p.2 ∧ p.2 ≤ B) : ∀ p ∈ bump l, 0 ≤ p.2 ∧ p.2 ≤ B + 1 := by
  intro p hp
  unfold bump at hp
  rcases List.mem_or_eq_of_mem_set hp with e | e
  · have := h p e; omega
  · subst e
    by_cases hl : l.length = 0
    · have : l = [] := List.eq_nil_of_length_eq_zero hl
      subst this
      simp at hp
    · have hm : G2 l (l.length - 1) ∈ l := by
        unfold G2
        rw [List.getD_eq_getElem?_getD, List.getElem?_eq_getElem (by omega)]
        simp
      have := h _ hm
      simp only
      omega

theorem rr_bd (lo : Nat) (L : List Int) (k : Nat) : ∀ p ∈ rr lo L k, 0 ≤ p.2 ∧ p.2 ≤ k := by
  induction k with
  | zero => intro p hp; simp [rr] at hp
  | succ k ih =>
    intro p hp
    simp only [rr] at hp
    split at hp
    · split at hp
      · have := bump_bd (B := (k : Int)) ih p hp; omega
      · rcases List.mem_append.1 hp with e | e
        · have := ih p e; omega
        · simp at e; subst e; simp; omega
    · have := ih p hp; omega

/-- A run as it is found at once. -/
theorem rr_run {lo : Nat} {L : List Int} {i : Nat} (h0 : i = 0 ∨ G L (i - 1) ≠ 0) (n : Nat) (hz : ∀ j, i ≤ j → j ≤ i + n → G L j = 0) : rr lo L (i + (n + 1)) = rr lo L i ++ [(((lo + i : Nat) : Int), ((n + 1 : Nat) : Int))] := by
  induction n with
  | zero =>
    show rr lo L (i + 1) = _
    simp only [rr]
    rw [if_pos (hz i (Nat.le_refl _) (by omega)), if_neg (by rcases h0 with e | e; (· omega); (· exact fun h => e h.2))]
    rfl
  | succ n ih =>
    have := ih (fun j h1 h2 => hz j h1 (by omega))
    show rr lo L ((i + (n + 1)) + 1) = _
    have e : rr lo L ((i + (n + 1)) + 1) = bump (rr lo L (i + (n + 1))) := by
      simp only [rr]
      rw [if_pos (hz _ (by omega) (by omega)), if_pos ⟨by omega, hz _ (by omega) (by omega)⟩]
    rw [e, this, bump_snoc]
    simp
end Ah

/-- What Runs answers. -/
def RunR (w : World) (ps : List (Int × Int)) (e : Ending) (w' : World) : Prop :=
  ∃ v, e = .returned v ∧ OwnsT w' v ps ∧ Below w.heap.size w w' ∧ ∀ k, v.ownBlock = some k → w.heap.size ≤ k

theorem last_at {l : List (Int × Int)} (h : 0 < l.length) : l[l.length - 1]? = some (G2 l (l.length - 1)) := by
  unfold G2
  rw [List.getD_eq_getElem?_getD, List.getElem?_eq_getElem (by omega)]
  simp

theorem pcells_set2 (ps : List (Int × Int)) (i : Nat) (x : Int) (hi : i < ps.length) : (pcells ps).set (i * 2 + 1) (.int .i64 x) = pcells (ps.set i ((G2 ps i).1, x)) := by
  induction ps generalizing i with
  | nil => simp at hi
  | cons q r ih =>
    match i with
    | 0 => simp [pcells, G2]
    | i + 1 =>
      have := ih i (by simpa using hi)
      rw [show (i + 1) * 2 = i * 2 + 1 + 1 by omega]
      simpa [pcells, G2] using this

/-- How many a run has is written. -/
theorem OwnsT.set2 {w : World} {g n cap : Nat} {ps : List (Int × Int)} (h : OwnsT w (.slice (some ⟨g, 0, none⟩) n cap) ps) (i : Nat) (hi : i < ps.length) (x : Int) :
    OwnsT (w.setCell ⟨g, i * 2 + 1, none⟩ (.int .i64 x)) (.slice (some ⟨g, 0, none⟩) n cap) (ps.set i ((G2 ps i).1, x)) := by
  have h' : w.ownsRow 0 49 2 (.slice (some ⟨g, 0, none⟩) n cap) ps.length (pcells ps) := h
  have hn : n = ps.length := by
    rcases h'.2 with ⟨e, _⟩ | ⟨g', cap', cur, e, _⟩
    · cases e
    · simp only [Value.slice.injEq] at e; exact e.2.1
  subst hn
  have := (h'.stored (i * 2 + 1) (.int .i64 x)).1
  unfold OwnsT
  rw [← pcells_set2 ps i x hi, List.length_set]
  exact this

set_option maxHeartbeats 2000000 in
theorem runs_any (M : Nat) (s : St) (X : Nat → Prop) (w : World) (H : Pm w M s X) :
    Calls Try.prog 19 #[mp M] w fun e w' => RunR w (rr s.lo s.L s.L.length) e w' := by
  obtain ⟨vs, v, u, vb, ns, bk, h, _⟩ := H
  have c0 := h.pf.c0
  have hst := h.pf.st
  have htop := h.pf.top
  have hlen := sts_length s.lo s.L
  have HST : Hid (Rd .u8 w vs (sts s.lo s.L)) := hst.rd
  obtain ⟨a, cap, rfl, hcap, hmax, _⟩ := hst.rd
  obtain ⟨m, hm⟩ : ∃ m, Hid (s.lo + s.L.length = m) := ⟨_, rfl⟩
  rw [hlen, hm.out] at c0 hcap HST
  rw [hm.out] at htop
  unfold maxLen at hmax
  have HLT : Hid (M < w.heap.size) := h.pf.lt
  have HVL : Hid (∀ k, (Value.slice a m cap).ownBlock = some k → k < w.heap.size) := by
    have := hst.lt
    rw [hlen, hm.out] at this
    exact this
  clear h hst hlen
  go_enter Try.func19, Try.ntmps19
  go_wp2_with fail
  go_loopw [3, 4, 12] (fun r b i wr => ∃ (n : Nat) (bh : Int), n ≤ m ∧ -1 ≤ bh ∧ bh ≤ n ∧ i = .int .i64 n ∧ b = .int .i64 bh ∧ Hid (bh = n ↔ 0 < n - s.lo ∧ G s.L (n - s.lo - 1) = 0) ∧ Hid (OwnsT wr r (rr s.lo s.L (n - s.lo))) ∧ Hid (Below w.heap.size w wr) ∧ Hid (∀ k, r.ownBlock = some k → w.heap.size ≤ k)) (fun _ _ i _ => m - (intOf i).toNat)
  case atStart => exact ⟨0, -1, Nat.zero_le _, by omega, by omega, rfl, rfl, (by constructor; (· intro e; omega); (· intro e; omega)), (by simp only [Nat.zero_sub, rr]; exact ownsT_nil _), Below.refl _ _, (fun k hk => by cases hk)⟩
  case round =>
    obtain ⟨t, bh, hn, hb1, hb2, rfl, rfl, HI, HO, HB, HN⟩ := hrel
    by_cases hlt : t < m
    · have HST2 : Rd .u8 wr (.slice a m cap) (sts s.lo s.L) := HST.out.below HB.out
      obtain ⟨a2, cap2, e2, _, _, _, hcells⟩ := HST2
      rw [sts_length, hm.out] at e2
      cases e2
      obtain ⟨bb, ob, rfl, hcl⟩ : ∃ b o, a = some ⟨b, o, none⟩ ∧ ∀ i, i < (sts s.lo s.L).length → wr.cell? ⟨b, o + i, none⟩ = some (.int .u8 ((sts s.lo s.L).getD i 0)) := by
        rcases hcells with e | e
        · have := sts_length s.lo s.L
          rw [e, hm.out] at this
          simp at this
          omega
        · exact e
      have ck := hcl t (by rw [sts_length, hm.out]; exact hlt)
      have eg : (sts s.lo s.L).getD t 0 = stv s t + 1 := sts_at s t (by rw [hm.out]; exact hlt)
      rw [eg] at ck
      obtain ⟨z, hz⟩ : ∃ z, Hid (stv s t + 1 = z) := ⟨_, rfl⟩
      rw [hz.out] at ck
      clear hcells hcl eg
      by_cases hfree : stv s t = 0
      · obtain ⟨k, hk, htk, hgk⟩ := stv_idx (s := s) (n := (t : Int)) (by omega)
        have htk2 : t = s.lo + k := by omega
        have HKk : Hid (t - s.lo = k) := by show _ = _; omega
        have HK1 : Hid (t + 1 - s.lo = k + 1) := by show _ = _; omega
        have hz1 : (z != 1) = false := by have := hz.out; simp; omega
        have hg0 : G s.L k = 0 := by omega
        have hk9 : k ≤ 65536 := by omega
        have HI4 : Hid ((t : Int) + 1 = ((t + 1 : Nat) : Int) ↔ 0 < t + 1 - s.lo ∧ G s.L (t + 1 - s.lo - 1) = 0) := by
          constructor
          · intro _
            rw [HK1.out]
            exact ⟨by omega, by simpa using hg0⟩
          · intro _; omega
        rw [HKk.out] at HI HO
        have hrl := rr_len s.lo s.L k
        by_cases hbt : bh = t
        · have hprev := HI.out.1 hbt
          have hrb : rr s.lo s.L (k + 1) = bump (rr s.lo s.L k) := by simp only [rr]; rw [if_pos hg0, if_pos hprev]
          have hpos : Hid (0 < (rr s.lo s.L k).length) := by
            obtain ⟨k', rfl⟩ : ∃ k', k = k' + 1 := ⟨k - 1, by omega⟩
            exact rr_ne s.lo s.L k' (by simpa using hprev.2)
          subst hbt
          have hbd : ∀ p ∈ rr s.lo s.L k, (0 : Int) ≤ p.2 ∧ p.2 ≤ 65536 := fun p hp => by have := rr_bd s.lo s.L k p hp; omega
          obtain ⟨g, capR, rfl, hg, hcapR, hmaxR, hcR, fzR⟩ := HO.out.shape hpos.out
          obtain ⟨i, hi⟩ : ∃ i, (rr s.lo s.L k).length = i + 1 := ⟨(rr s.lo s.L k).length - 1, by have := hpos.out; omega⟩
          have ci := (hcR i (by omega)).2
          have fi := fzR (i * 2 + 1)
          obtain ⟨y, hye⟩ : ∃ y, (G2 (rr s.lo s.L k) i).2 = y := ⟨_, rfl⟩
          have hy : Hid ((G2 (rr s.lo s.L k) i).2 = y) := hye
          clear hye
          have hy2 : ((rr s.lo s.L k).getD i (0, 0)).2 = y := hy.out
          rw [hy2] at ci
          have hyb : 0 ≤ y ∧ y ≤ 65536 := by
            have hmem : G2 (rr s.lo s.L k) i ∈ (rr s.lo s.L k) := by
              unfold G2
              rw [List.getD_eq_getElem?_getD, List.getElem?_eq_getElem (by omega)]
              simp
            have := hbd _ hmem
            rw [hy.out] at this
            omega
          have HO4 : Hid (OwnsT (wr.setCell ⟨g, i * 2 + 1, none⟩ (.int .i64 (y + 1))) (.slice (some ⟨g, 0, none⟩) (i + 1) capR) (rr s.lo s.L (k + 1))) := by
            have h5 := HO.out.set2 i (by omega) (y + 1)
            rw [hi] at h5
            have e5 : (rr s.lo s.L k).set i ((G2 (rr s.lo s.L k) i).1, y + 1) = rr s.lo s.L (k + 1) := by
              rw [hrb]
              unfold bump
              rw [hi]
              simp only [Nat.add_sub_cancel]
              rw [hy.out]
            rw [e5] at h5
            exact h5
          have HB4 : Hid (Below w.heap.size w (wr.setCell ⟨g, i * 2 + 1, none⟩ (.int .i64 (y + 1)))) := by
            have h6 : Tch (fun k => k = g) wr (wr.setCell ⟨g, i * 2 + 1, none⟩ (.int .i64 (y + 1))) := Tch.setCell (Tch.refl (fun k => k = g) wr) (p := ⟨g, i * 2 + 1, none⟩) (fun _ => rfl) _
            exact HB.out.trans (h6.below HB.out.size (fun k e => by rw [e]; exact HN.out g rfl))
          have HN4 : Hid (∀ k, (Value.slice (some ⟨g, 0, none⟩) (i + 1) capR).ownBlock = some k → w.heap.size ≤ k) := fun k hk => HN.out k hk
          rw [hi]
          rw [hi] at hcapR
          unfold maxLen at hmaxR
          clear hcR fzR hy2 hi hg hbd
          have hcmp : ((t : Int) != (t : Int)) = false := by simp
          clear hprev hrb hgk htk htk2 hg0 hfree hrl HI
          go_wp2_with fail
          go_roundw
          case rel => exact ⟨t + 1, (t : Int) + 1, by omega, by omega, by omega, by first | rfl | go_num, by first | rfl | go_num, HI4, by rw [HK1.out]; exact HO4, HB4, HN4⟩
          case measure => simp [intOf]; omega
        · have hnp : ¬ (0 < k ∧ G s.L (k - 1) = 0) := fun e => hbt (HI.out.2 e)
          have hrp : rr s.lo s.L (k + 1) = bump (rr s.lo s.L k ++ [((t : Int), 0)]) := by
            rw [bump_snoc]
            simp only [rr]
            rw [if_pos hg0, if_neg hnp, htk2]
            rfl
          have hcmp : ((t : Int) != bh) = true := by simp; omega
          have HRP : Hid (rr s.lo s.L (k + 1) = bump (rr s.lo s.L k ++ [((t : Int), 0)])) := hrp
          have HRL : Hid ((rr s.lo s.L k).length ≤ k) := hrl
          clear hnp hrp hgk htk htk2 hg0 hfree hrl HI hbt
          go_wp2_with (at_builtin; refine wpList_pushT _ rfl (.tmp 22) (.tmp 25) rfl _ (rr s.lo s.L k) rfl HO.out ((t : Int), 0) rfl (by have := HRL.out; omega) ?_)
          intro v2 w2 ho2 hg2
          have OV : Hid (OwnsT w2 v2 (rr s.lo s.L k ++ [((t : Int), 0)])) := ho2
          have hBV := hg2.onto HB.out HN.out
          have BV : Hid (Below w.heap.size w w2) := hBV.1
          have NV : Hid (∀ k, v2.ownBlock = some k → w.heap.size ≤ k) := hBV.2
          have hrp := HRP.out
          have hbd : ∀ p ∈ rr s.lo s.L k ++ [((t : Int), (0 : Int))], (0 : Int) ≤ p.2 ∧ p.2 ≤ 65536 := fun p hp => by
            rcases List.mem_append.1 hp with e | e
            · have := rr_bd s.lo s.L k p e; omega
            · simp at e; subst e; simp
          clear ho2 hg2 hBV HO HB HN ck
          obtain ⟨g, capR, rfl, hg, hcapR, hmaxR, hcR, fzR⟩ := OV.out.shape (by simp)
          obtain ⟨i, hi⟩ : ∃ i, (rr s.lo s.L k ++ [((t : Int), 0)]).length = i + 1 := ⟨(rr s.lo s.L k ++ [((t : Int), 0)]).length - 1, by have := (show 0 < (rr s.lo s.L k ++ [((t : Int), (0 : Int))]).length by simp); omega⟩
          have ci := (hcR i (by omega)).2
          have fi := fzR (i * 2 + 1)
          obtain ⟨y, hye⟩ : ∃ y, (G2 (rr s.lo s.L k ++ [((t : Int), 0)]) i).2 = y := ⟨_, rfl⟩
          have hy : Hid ((G2 (rr s.lo s.L k ++ [((t : Int), 0)]) i).2 = y) := hye
          clear hye
          have hy2 : ((rr s.lo s.L k ++ [((t : Int), 0)]).getD i (0, 0)).2 = y := hy.out
          rw [hy2] at ci
          have hyb : 0 ≤ y ∧ y ≤ 65536 := by
            have hmem : G2 (rr s.lo s.L k ++ [((t : Int), 0)]) i ∈ (rr s.lo s.L k ++ [((t : Int), 0)]) := by
              unfold G2
              rw [List.getD_eq_getElem?_getD, List.getElem?_eq_getElem (by omega)]
              simp
            have := hbd _ hmem
            rw [hy.out] at this
            omega
          have HO4 : Hid (OwnsT (w2.setCell ⟨g, i * 2 + 1, none⟩ (.int .i64 (y + 1))) (.slice (some ⟨g, 0, none⟩) (i + 1) capR) (rr s.lo s.L (k + 1))) := by
            have h5 := OV.out.set2 i (by omega) (y + 1)
            rw [hi] at h5
            have e5 : (rr s.lo s.L k ++ [((t : Int), 0)]).set i ((G2 (rr s.lo s.L k ++ [((t : Int), 0)]) i).1, y + 1) = rr s.lo s.L (k + 1) := by
              rw [hrp]
              unfold bump
              rw [hi]
              simp only [Nat.add_sub_cancel]
              rw [hy.out]
            rw [e5] at h5
            exact h5
          have HB4 : Hid (Below w.heap.size w (w2.setCell ⟨g, i * 2 + 1, none⟩ (.int .i64 (y + 1)))) := by
            have h6 : Tch (fun k => k = g) w2 (w2.setCell ⟨g, i * 2 + 1, none⟩ (.int .i64 (y + 1))) := Tch.setCell (Tch.refl (fun k => k = g) w2) (p := ⟨g, i * 2 + 1, none⟩) (fun _ => rfl) _
            exact BV.out.trans (h6.below BV.out.size (fun k e => by rw [e]; exact NV.out g rfl))
          have HN4 : Hid (∀ k, (Value.slice (some ⟨g, 0, none⟩) (i + 1) capR).ownBlock = some k → w.heap.size ≤ k) := fun k hk => NV.out k hk
          rw [hi]
          rw [hi] at hcapR
          unfold maxLen at hmaxR
          clear hcR fzR hy2 hi hg hbd
          clear hrp
          go_wp2_with fail
          go_roundw
          case rel => exact ⟨t + 1, (t : Int) + 1, by omega, by omega, by omega, by first | rfl | go_num, by first | rfl | go_num, HI4, by rw [HK1.out]; exact HO4, HB4, HN4⟩
          case measure => simp [intOf]; omega
      · have hz1 : (z != 1) = true := by have := hz.out; simp; omega
        have HO4 : Hid (OwnsT wr u3 (rr s.lo s.L (t + 1 - s.lo))) := by
          have hO := HO.out
          by_cases hl : t < s.lo
          · rw [show t - s.lo = 0 by omega] at hO
            rw [show t + 1 - s.lo = 0 by omega]
            exact hO
          · obtain ⟨k, rfl⟩ : ∃ k, t = s.lo + k := ⟨t - s.lo, by omega⟩
            have hkl : k < s.L.length := by have := hm.out; omega
            rw [stv_in hkl] at hfree
            rw [show s.lo + k - s.lo = k by omega] at hO
            rw [show s.lo + k + 1 - s.lo = k + 1 by omega]
            simp only [rr]
            rw [if_neg hfree]
            exact hO
        have HI4 : Hid (bh = ((t + 1 : Nat) : Int) ↔ 0 < t + 1 - s.lo ∧ G s.L (t + 1 - s.lo - 1) = 0) := by
          constructor
          · intro e; omega
          · rintro ⟨e1, e2⟩
            exfalso
            obtain ⟨k, rfl⟩ : ∃ k, t = s.lo + k := ⟨t - s.lo, by omega⟩
            have hkl : k < s.L.length := by have := hm.out; omega
            rw [stv_in hkl] at hfree
            rw [show s.lo + k + 1 - s.lo - 1 = k by omega] at e2
            exact hfree e2
        clear hfree HO HI
        go_wp2_with fail
        go_roundw
        case rel => exact ⟨t + 1, bh, by omega, by omega, by omega, by first | rfl | go_num, rfl, HI4, HO4, HB, HN⟩
        case measure => simp [intOf]; omega
    · have htm : t = m := by omega
      have HF : Hid (OwnsT wr u3 (rr s.lo s.L s.L.length)) := by
        have := HO.out
        rw [htm, ← hm.out, show s.lo + s.L.length - s.lo = s.L.length by omega] at this
        exact this
      have hd : decide (t < m) = false := by simp; omega
      clear htm
      go_wp2_with fail
      go_ret
      exact ⟨u3, rfl, HF.out, HB.out, HN.out⟩
end Go.Proofs.Ytamgogkkcbeaaaa
