/-
  GetShare: the program's and the document's answer.
-/
import Derived.Test.YtkiejjnnjjdfjaaFGet
namespace Go.Proofs.Ytkiejjnnjjdfjaa
open Go.RowKit Pl
set_option linter.unusedVariables false

theorem results_tmp4 {fn : Func} {t u v x : Tmp} (h : fn.results = #[.tmp t, .tmp u, .tmp v, .tmp x]) (tmps : Array Value) (P : Program) (w : World) :
    (results fn tmps).run P w = .ok (.tuple #[tmps.getD t undef, tmps.getD u undef, tmps.getD v undef, tmps.getD x undef]) w := by
  simp [results, h]

/-- What GetShare answers: the word, the share, the log, how many bytes. -/
def getR (ys : List Int) : Int × List Int × Int × Int :=
  if ys.length = 0 then (3, [], 0, 0) else match numRes (ys.drop 1) with
    | none => (3, [], 0, 0)
    | some r => if ¬ (5 ≤ ys.getD 0 0 ∧ ys.getD 0 0 ≤ 9) ∨ 64 < r.1 then (4, [], 0, 0) else match tkn (ys.drop (1 + r.2)) r.1.toNat with
      | none => (3, [], 0, 0)
      | some t => if mayS t.1 (ys.getD 0 0) = true then (0, t.1, ys.getD 0 0, ((1 + r.2 + t.2 : Nat) : Int)) else (4, [], 0, 0)

def GPost (R : Int × List Int × Int × Int) (w : World) (e : Ending) (w' : World) : Prop :=
  ∃ d, e = .returned (.tuple #[d, .int .i64 R.2.2.1, .int .i64 R.2.2.2, .int .i64 R.1]) ∧ Below w.heap.size w w' ∧ (∀ k, d.ownBlock = some k → w.heap.size ≤ k) ∧ Owns .i64 3 w' d R.2.1

theorem GPost.bad {E : Int} {w w' : World} (hb : Below w.heap.size w w') : GPost (E, [], 0, 0) w (.returned (.tuple #[.slice none 0 0, .int .i64 0, .int .i64 0, .int .i64 E])) w' :=
  ⟨_, rfl, hb, (fun k e => by cases e), owns_nil _ _ _⟩

theorem getR_none {ys : List Int} (h0 : ys.length ≠ 0) (h : numRes (ys.drop 1) = none) : getR ys = (3, [], 0, 0) := by
  unfold getR
  rw [if_neg h0, h]
theorem getR_log {ys : List Int} {n : Int} {k : Nat} (h0 : ys.length ≠ 0) (h : numRes (ys.drop 1) = some (n, k)) (hb : ¬ (5 ≤ ys.getD 0 0 ∧ ys.getD 0 0 ≤ 9) ∨ 64 < n) : getR ys = (4, [], 0, 0) := by
  unfold getR
  rw [if_neg h0, h]
  show (if _ then _ else _) = _
  rw [if_pos hb]
theorem getR_take {ys : List Int} {n : Int} {k : Nat} (h0 : ys.length ≠ 0) (h : numRes (ys.drop 1) = some (n, k)) (hb : ¬ (¬ (5 ≤ ys.getD 0 0 ∧ ys.getD 0 0 ≤ 9) ∨ 64 < n)) (ht : tkn (ys.drop (1 + k)) n.toNat = none) : getR ys = (3, [], 0, 0) := by
  unfold getR
  rw [if_neg h0, h]
  show (if _ then _ else _) = _
  rw [if_neg hb]
  show (match tkn (ys.drop (1 + k)) n.toNat with | none => _ | some t => _) = _
  rw [ht]
theorem getR_last {ys : List Int} {n : Int} {k : Nat} (h0 : ys.length ≠ 0) (h : numRes (ys.drop 1) = some (n, k)) (hb : ¬ (¬ (5 ≤ ys.getD 0 0 ∧ ys.getD 0 0 ≤ 9) ∨ 64 < n)) {l : List Int} {p : Nat} (ht : tkn (ys.drop (1 + k)) n.toNat = some (l, p)) :
    getR ys = if mayS l (ys.getD 0 0) = true then (0, l, ys.getD 0 0, ((1 + k + p : Nat) : Int)) else (4, [], 0, 0) := by
  unfold getR
  rw [if_neg h0, h]
  show (if _ then _ else _) = _
  rw [if_neg hb]
  show (match tkn (ys.drop (1 + k)) n.toNat with | none => _ | some t => _) = _
  rw [ht]

theorem getShare_empty (a : Option Addr) (cap : Nat) (w : World) :
    Calls Try.prog 17 #[.slice a 0 cap] w fun e w' => GPost (getR []) w e w' := by
  go_enter Try.func17, Try.ntmps17
  go_wp2_with fail
  (try simp only [Exit.inBlock, Exit.then])
  refine bodyPost_ret (results_tmp4 rfl _ _ _) rfl ?_
  exact GPost.bad (Below.refl _ _)

set_option maxRecDepth 100000 in
set_option maxHeartbeats 2000000 in
theorem getShare_any (b o cap : Nat) (ys : List Int) (w : World) (hy : By ys) (h0 : 0 < ys.length) (hl : ys.length ≤ cap) (hc0 : cap ≤ maxLen) (hc : ∀ i, i < ys.length → w.cell? ⟨b, o + i, none⟩ = some (.int .u8 (ys.getD i 0))) :
    Calls Try.prog 17 #[.slice (some ⟨b, o, none⟩) ys.length cap] w fun e w' => GPost (getR ys) w e w' := by
  have HC : Hid (∀ i, i < ys.length → w.cell? ⟨b, o + i, none⟩ = some (.int .u8 (ys.getD i 0))) := hc
  have HY : Hid (By ys) := hy
  have hcm := hc0
  unfold maxLen at hcm
  obtain ⟨R, hR⟩ : ∃ R, Hid (getR ys = R) := ⟨_, rfl⟩
  rw [hR.out]
  obtain ⟨y, hye⟩ : ∃ y, Hid (ys.getD 0 0 = y) := ⟨_, rfl⟩
  have c0 : w.cell? ⟨b, o, none⟩ = some (.int .u8 y) := by have := hc 0 h0; rw [Nat.add_zero] at this; rw [this, hye.out]
  have hyb := hy 0
  rw [hye.out] at hyb
  have hz : ((ys.length : Int) == 0) = false := by rw [beq_eq_false_iff_ne]; omega
  have hne : ys.length ≠ 0 := by omega
  have HNE : Hid (ys.length ≠ 0) := hne
  clear hc hy hne
  by_cases h1 : ys.length = 1
  · have HD : Hid (ys.drop 1 = []) := by show _ = _; rw [← h1]; exact List.drop_length
    have HE : Hid (R = (3, [], 0, 0)) := by show R = _; rw [← hR.out]; exact getR_none HNE.out (by rw [HD.out]; rfl)
    have HNM : Hid (∀ a c, Calls Try.prog 31 #[.slice a 0 c] w fun e w' => e = .returned (.tuple #[.int .i64 0, .int .i64 0, .int .i64 3]) ∧ w' = w) := fun a c => num_empty a c w
    have h00 : ys.length - 1 = 0 := by omega
    go_enter Try.func17, Try.ntmps17
    go_wp2_with fail
    all_goals
      try rw [h00]
      refine (HNM.out _ _).mono ?_
      rintro e w2 ⟨rfl, rfl⟩
      go_wp2_with fail
      (try simp only [Exit.inBlock, Exit.then])
      refine bodyPost_ret (results_tmp4 rfl _ _ _) rfl ?_
      rw [HE.out]
      exact GPost.bad (Below.refl _ _)
  have h2 : 1 < ys.length := by omega
  have h3 : 1 < cap := by omega
  have HRD : Hid (Rd .u8 w (.slice (some ⟨b, o + 1, none⟩) (ys.length - 1) (cap - 1)) (ys.drop 1)) := rd_drop' 1 (by omega) hl hc0 HC.out
  have HNM : Hid (Calls Try.prog 31 #[.slice (some ⟨b, o + 1, none⟩) (ys.length - 1) (cap - 1)] w fun e w' => e = .returned (.tuple #[.int .i64 (resN (numRes (ys.drop 1))), .int .i64 (resK (numRes (ys.drop 1))), .int .i64 (resE (numRes (ys.drop 1)))]) ∧ w' = w) := num_rd _ _ _ HRD.out (HY.out.drop 1)
  clear h1 HRD
  go_enter Try.func17, Try.ntmps17
  go_wp2_with fail
  refine HNM.out.mono ?_
  clear HNM
  rintro e w2 ⟨rfl, rfl⟩
  cases hn : numRes (ys.drop 1) with
  | none =>
    have HE : Hid (R = (3, [], 0, 0)) := by show R = _; rw [← hR.out]; exact getR_none HNE.out hn
    simp only [resN, resK, resE]
    clear hn
    go_wp2_with fail
    (try simp only [Exit.inBlock, Exit.then])
    refine bodyPost_ret (results_tmp4 rfl _ _ _) rfl ?_
    rw [HE.out]
    exact GPost.bad (Below.refl _ _)
  | some r =>
    obtain ⟨n, k⟩ := r
    obtain ⟨k1, k2, k3, _⟩ := numRes_take hn
    rw [List.length_drop] at k2
    have hnb := numRes_val (HY.out.drop 1) hn
    have HN : Hid (numRes (ys.drop 1) = some (n, k)) := hn
    simp only [resN, resK, resE]
    clear hn
    have HML : Hid (Calls Try.prog 32 #[.int .i64 y] w2 fun e w' => e = .returned (.bool (decide (5 ≤ y ∧ y ≤ 9))) ∧ w' = w2) := mayLog_any y w2
    go_wp2_with fail
    refine HML.out.mono ?_
    clear HML
    rintro e w3 ⟨rfl, rfl⟩
    by_cases hlog : ¬ (5 ≤ y ∧ y ≤ 9)
    · have HE : Hid (R = (4, [], 0, 0)) := by show R = _; rw [← hR.out]; exact getR_log HNE.out HN.out (.inl (by rw [hye.out]; exact hlog))
      have hd : decide (5 ≤ y ∧ y ≤ 9) = false := by rw [decide_eq_false_iff_not]; exact hlog
      rw [hd]
      clear hd hlog
      go_wp2_with fail
      (try simp only [Exit.inBlock, Exit.then])
      refine bodyPost_ret (results_tmp4 rfl _ _ _) rfl ?_
      rw [HE.out]
      exact GPost.bad (Below.refl _ _)
    have hlog2 : 5 ≤ y ∧ y ≤ 9 := Classical.not_not.1 hlog
    have hd : decide (5 ≤ y ∧ y ≤ 9) = true := by rw [decide_eq_true_eq]; exact hlog2
    rw [hd]
    clear hd hlog
    by_cases hbig : 64 < n
    · have HE : Hid (R = (4, [], 0, 0)) := by show R = _; rw [← hR.out]; exact getR_log HNE.out HN.out (.inr hbig)
      go_wp2_with fail
      (try simp only [Exit.inBlock, Exit.then])
      refine bodyPost_ret (results_tmp4 rfl _ _ _) rfl ?_
      rw [HE.out]
      exact GPost.bad (Below.refl _ _)
    have hbig2 : decide (64 < n) = false := by rw [decide_eq_false_iff_not]; exact hbig
    obtain ⟨m, rfl⟩ := Int.eq_ofNat_of_zero_le hnb.1
    have hm64 : m ≤ 64 := by omega
    have HB : Hid (¬ (¬ (5 ≤ ys.getD 0 0 ∧ ys.getD 0 0 ≤ 9) ∨ 64 < (m : Int))) := by
      rw [hye.out]
      intro h
      rcases h with h | h
      · exact h hlog2
      · exact hbig h
    obtain ⟨T, hT⟩ : ∃ T, Hid (tkn (ys.drop (1 + k)) m = T) := ⟨_, rfl⟩
    have HTK : Hid (∀ a c, ((1 + k < ys.length ∧ a = some ⟨b, o + (1 + k), none⟩ ∧ c = cap - (1 + k)) ∨ (1 + k = ys.length ∧ (∃ b o, a = some ⟨b, o, none⟩) ∧ c ≤ maxLen)) → Calls Try.prog 33 #[.slice a (ys.length - (1 + k)) c, .int .i64 m] w3 fun e w' => ∃ v', e = .returned (.tuple #[v', .int .i64 (tkP T : Int), .int .i64 (tkW T)]) ∧ Owns .i64 3 w' v' (tkL T) ∧ Grew w3 w' (.slice none 0 0) v') := by
      intro a c h
      rw [← hT.out]
      rcases h with ⟨h1, rfl, rfl⟩ | ⟨h1, ⟨b', o', rfl⟩, h2⟩
      · have := take_any b (o + (1 + k)) (cap - (1 + k)) (ys.drop (1 + k)) m w3 (HY.out.drop _) (by rw [List.length_drop]; omega) (by omega) hm64 (fun i hi => by
          rw [List.length_drop] at hi
          rw [Nat.add_assoc, HC.out (1 + k + i) (by omega), List.getD_eq_getElem?_getD, List.getD_eq_getElem?_getD, List.getElem?_drop])
        rw [List.length_drop] at this
        exact this
      · have e : ys.drop (1 + k) = [] := by rw [h1]; exact List.drop_length
        have := take_any b' o' c [] m w3 (fun i => by simp) (Nat.zero_le _) h2 hm64 (fun i hi => by simp at hi)
        rw [e, show ys.length - (1 + k) = 0 by omega]
        exact this
    have hbd : 1 + k ≤ ys.length := by omega
    have HMID : Hid (∀ v' wq, Owns .i64 3 wq v' (tkL T) → Grew w3 wq (.slice none 0 0) v' → Below w3.heap.size w3 wq ∧ (∀ k, v'.ownBlock = some k → w3.heap.size ≤ k) ∧ Calls Try.prog 27 #[v', .int .i64 y] wq fun e w' => e = .returned (.bool (mayS (tkL T) y)) ∧ w' = wq) := fun v' wq ho hg => ⟨hg.below.1, hg.below.2, maybe_rd _ _ _ _ ho.rd⟩
    clear hbig HC
    by_cases hke : 1 + k = ys.length
    · have HKE : Hid (1 + k = ys.length) := hke
      clear hke
      go_wp2_with fail
      all_goals
        refine (HTK.out _ _ (.inr ⟨HKE.out, ⟨_, _, rfl⟩, by omega⟩)).mono ?_
        clear HTK
        rintro e w4 ⟨v4, rfl, ho4, hg4⟩
        cases hTT : T with
        | none =>
          have HE : Hid (R = (3, [], 0, 0)) := by show R = _; rw [← hR.out]; exact getR_take HNE.out HN.out HB.out (by rw [Int.toNat_natCast, hT.out, hTT])
          rw [hTT] at ho4
          obtain ⟨bl4, _⟩ := hg4.below
          have B4 : Hid (Below w3.heap.size w3 w4) := bl4
          simp only [tkP, tkW]
          clear ho4 hg4 bl4 hTT HMID
          go_wp2_with fail
          (try simp only [Exit.inBlock, Exit.then])
          refine bodyPost_ret (results_tmp4 rfl _ _ _) rfl ?_
          rw [HE.out]
          exact GPost.bad B4.out
        | some t =>
          obtain ⟨l, p⟩ := t
          have HE : Hid (R = if mayS l y = true then (0, l, y, ((1 + k + p : Nat) : Int)) else (4, [], 0, 0)) := by show R = _; rw [← hR.out, getR_last HNE.out HN.out HB.out (by rw [Int.toNat_natCast, hT.out, hTT]), hye.out]
          obtain ⟨bl4, fr4, hmb⟩ := HMID.out v4 w4 ho4 hg4
          rw [hTT] at ho4 hmb
          have hpl := (tkn_le (by rw [hT.out, hTT] : tkn (ys.drop (1 + k)) m = some (l, p))).2
          rw [List.length_drop] at hpl
          have B4 : Hid (Below w3.heap.size w3 w4) := bl4
          have F4 : Hid (∀ k, v4.ownBlock = some k → w3.heap.size ≤ k) := fr4
          have O4 : Hid (Owns .i64 3 w4 v4 l) := ho4
          have HMB : Hid (Calls Try.prog 27 #[v4, .int .i64 y] w4 fun e w' => e = .returned (.bool (mayS l y)) ∧ w' = w4) := hmb
          simp only [tkP, tkW]
          clear ho4 hg4 bl4 fr4 hmb hTT HMID
          go_wp2_with fail
          refine HMB.out.mono ?_
          clear HMB
          rintro e w5 ⟨rfl, rfl⟩
          cases hmay : mayS l y with
          | false =>
            have HE2 : Hid (R = (4, [], 0, 0)) := by show R = _; rw [HE.out, if_neg (by rw [hmay]; simp)]
            clear hmay
            go_wp2_with fail
            (try simp only [Exit.inBlock, Exit.then])
            refine bodyPost_ret (results_tmp4 rfl _ _ _) rfl ?_
            rw [HE2.out]
            exact GPost.bad B4.out
          | true =>
            have HE2 : Hid (R = (0, l, y, ((1 + k + p : Nat) : Int))) := by show R = _; rw [HE.out, if_pos hmay]
            clear hmay
            go_wp2_with fail
            (try simp only [Exit.inBlock, Exit.then])
            refine bodyPost_ret (results_tmp4 rfl _ _ _) rfl ?_
            rw [HE2.out]
            exact ⟨_, by first | rfl | (push_cast; rfl), B4.out, F4.out, O4.out⟩
    · have hkl : 1 + k < ys.length := by omega
      have hkc : 1 + k < cap := by omega
      clear hke
      go_wp2_with fail
      refine (HTK.out _ _ (.inl ⟨hkl, rfl, rfl⟩)).mono ?_
      clear HTK
      rintro e w4 ⟨v4, rfl, ho4, hg4⟩
      cases hTT : T with
      | none =>
        have HE : Hid (R = (3, [], 0, 0)) := by show R = _; rw [← hR.out]; exact getR_take HNE.out HN.out HB.out (by rw [Int.toNat_natCast, hT.out, hTT])
        rw [hTT] at ho4
        obtain ⟨bl4, _⟩ := hg4.below
        have B4 : Hid (Below w3.heap.size w3 w4) := bl4
        simp only [tkP, tkW]
        clear ho4 hg4 bl4 hTT HMID
        go_wp2_with fail
        (try simp only [Exit.inBlock, Exit.then])
        refine bodyPost_ret (results_tmp4 rfl _ _ _) rfl ?_
        rw [HE.out]
        exact GPost.bad B4.out
      | some t =>
        obtain ⟨l, p⟩ := t
        have HE : Hid (R = if mayS l y = true then (0, l, y, ((1 + k + p : Nat) : Int)) else (4, [], 0, 0)) := by show R = _; rw [← hR.out, getR_last HNE.out HN.out HB.out (by rw [Int.toNat_natCast, hT.out, hTT]), hye.out]
        obtain ⟨bl4, fr4, hmb⟩ := HMID.out v4 w4 ho4 hg4
        rw [hTT] at ho4 hmb
        have hpl := (tkn_le (by rw [hT.out, hTT] : tkn (ys.drop (1 + k)) m = some (l, p))).2
        rw [List.length_drop] at hpl
        have B4 : Hid (Below w3.heap.size w3 w4) := bl4
        have F4 : Hid (∀ k, v4.ownBlock = some k → w3.heap.size ≤ k) := fr4
        have O4 : Hid (Owns .i64 3 w4 v4 l) := ho4
        have HMB : Hid (Calls Try.prog 27 #[v4, .int .i64 y] w4 fun e w' => e = .returned (.bool (mayS l y)) ∧ w' = w4) := hmb
        simp only [tkP, tkW]
        clear ho4 hg4 bl4 fr4 hmb hTT HMID
        go_wp2_with fail
        refine HMB.out.mono ?_
        clear HMB
        rintro e w5 ⟨rfl, rfl⟩
        cases hmay : mayS l y with
        | false =>
          have HE2 : Hid (R = (4, [], 0, 0)) := by show R = _; rw [HE.out, if_neg (by rw [hmay]; simp)]
          clear hmay
          go_wp2_with fail
          (try simp only [Exit.inBlock, Exit.then])
          refine bodyPost_ret (results_tmp4 rfl _ _ _) rfl ?_
          rw [HE2.out]
          exact GPost.bad B4.out
        | true =>
          have HE2 : Hid (R = (0, l, y, ((1 + k + p : Nat) : Int))) := by show R = _; rw [HE.out, if_pos hmay]
          clear hmay
          go_wp2_with fail
          (try simp only [Exit.inBlock, Exit.then])
          refine bodyPost_ret (results_tmp4 rfl _ _ _) rfl ?_
          rw [HE2.out]
          exact ⟨_, by first | rfl | (push_cast; rfl), B4.out, F4.out, O4.out⟩
end Go.Proofs.Ytkiejjnnjjdfjaa
