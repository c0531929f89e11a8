import Derived.Test.YtgpaklifjonlkaaKP20
import Derived.StillTailTactics
import Derived.Laws.BitsAllLaws
import Derived.Test.YtgpaklifjonlkaaKP11
import Derived.Test.YtgpaklifjonlkaaKP06
/-
  A bit is turned.
-/
namespace Go.Proofs.Ytgpaklifjonlkaa
open Go.RowKit Go.Maps
set_option linter.unusedVariables false
set_option linter.unusedSimpArgs false
set_option maxRecDepth 100000

theorem trn_ok {k : Nat} (hk : k < 2048) {x : List Int} (hx : x.length = 256) (hb : By x) : (trn k x).length = 256 ∧ By (trn k x) := by
  have h1 := hb (k / 8)
  obtain ⟨y, hy⟩ : ∃ y : Nat, x.getD (k / 8) 0 = (y : Int) := ⟨(x.getD (k / 8) 0).toNat, by omega⟩
  have h2 : y < 2 ^ 8 := by rw [hy] at h1; omega
  have h3 : (2 : Nat) ^ (k % 8) < 2 ^ 8 := Nat.pow_lt_pow_right (by decide) (by omega)
  have h4 := Nat.xor_lt_two_pow h2 h3
  unfold trn
  rw [hy, Int.toNat_natCast]
  refine ⟨by rw [List.length_set]; exact hx, hb.set _ (by omega) (by omega)⟩

set_option maxHeartbeats 1000000 in
theorem turn_any (b i k cap n : Nat) (rows : List (List Int)) (w : World) (h : SecR w (.slice (some ⟨b, 0, none⟩) n cap) rows) (hi : i < rows.length) (hk : k < 2048) :
    Calls Try.prog 60 #[.pointer (some ⟨b, i * 256, none⟩), .int .i64 (k : Int)] w fun e w' => e = .returned (.tuple #[]) ∧ SecR w' (.slice (some ⟨b, 0, none⟩) n cap) (rows.set i (trn k (rows.getD i []))) ∧ Tch (fun j => j = b) w w' := by
  have hj : k / 8 < 256 := by omega
  obtain ⟨hc, hf⟩ := h.cell hi hj
  have hb := (h.1.get hi).2 (k / 8)
  obtain ⟨y, hy⟩ : ∃ y : Nat, (rows.getD i []).getD (k / 8) 0 = (y : Int) := ⟨((rows.getD i []).getD (k / 8) 0).toNat, by omega⟩
  have hy8 : y < 256 := by rw [hy] at hb; omega
  rw [hy] at hc
  have hr8 : k % 8 < 8 := Nat.mod_lt _ (by decide)
  have hp8 : (2 : Nat) ^ (k % 8) < 256 := by have := Nat.pow_lt_pow_right (a := 2) (by decide) hr8; simpa using this
  have HX : Hid (Go.bits .xor .u8 (y : Int) ((2 ^ (k % 8) : Nat) : Int) = ((y ^^^ 2 ^ (k % 8) : Nat) : Int)) := u8_xor_nat y (2 ^ (k % 8)) (by omega) (by omega)
  have HZ : Hid (y ^^^ 2 ^ (k % 8) < 256) := Nat.xor_lt_two_pow (n := 8) (by omega) (by omega)
  have HT : Hid (rows.set i (trn k (rows.getD i [])) = rows.set i ((rows.getD i []).set (k / 8) ((y ^^^ 2 ^ (k % 8) : Nat) : Int))) := by
    show _ = _
    unfold trn
    rw [hy, Int.toNat_natCast]
  have HS : Hid (SecR w (.slice (some ⟨b, 0, none⟩) n cap) rows) := h
  have HI : Hid (i < rows.length ∧ k / 8 < 256) := ⟨hi, hj⟩
  obtain ⟨P, hP⟩ : ∃ P : Nat, 2 ^ (k % 8) = P := ⟨_, rfl⟩
  have hsh : IntKind.u8.wrap (1 * 2 ^ (k % 8)) = (P : Int) := by
    rw [← hP, Int.one_mul]
    have : ((2 : Int) ^ (k % 8)) = ((2 ^ (k % 8) : Nat) : Int) := by simp
    rw [this]
    have : ((2 ^ (k % 8) : Nat) : Int) < 256 := by omega
    simp [IntKind.wrap, IntKind.bits, IntKind.signed]
    omega
  rw [hP] at HX HZ HT
  obtain ⟨j, hjj⟩ : ∃ j, k / 8 = j := ⟨_, rfl⟩
  obtain ⟨r, hrr⟩ : ∃ r, k % 8 = r := ⟨_, rfl⟩
  have hdiv : (k : Int).tdiv 8 = (j : Int) := by rw [← hjj]; rfl
  have hmod : (k : Int).tmod 8 = (r : Int) := by rw [← hrr]; rfl
  rw [hjj] at hc hf HT HI
  rw [hrr] at hsh hr8
  clear h hi hj hb hy hp8 hP hjj hrr
  have hj0 : (0 : Int) ≤ (j : Int) := by omega
  have hj1 : (j : Int) < 256 := by have := HI.out.2; omega
  have hj2 : (j : Int) ≤ 255 := by omega
  have hr0 : (0 : Int) ≤ (r : Int) := by omega
  have hjw : IntKind.i64.wrap (j : Int) = (j : Int) := by rw [IntKind.wrap_i64]; omega
  have hsh2 : IntKind.u8.wrap (2 ^ min r 8) = (P : Int) := by rw [Nat.min_eq_left (by omega), ← hsh, Int.one_mul]
  have hx := HX.out
  obtain ⟨Z, hZ⟩ : ∃ Z : Nat, y ^^^ P = Z := ⟨_, rfl⟩
  rw [hZ] at hx HZ HT
  have S2 : Hid (SecR (w.drew.setCell ⟨b, i * 256 + j, none⟩ (.int .u8 (Z : Int))) (.slice (some ⟨b, 0, none⟩) n cap) (rows.set i ((rows.getD i []).set j (Z : Int)))) := (show SecR w.drew (.slice (some ⟨b, 0, none⟩) n cap) rows from HS.out.tch (S := fun _ => False) (Tch.drew (Tch.refl _ w)) (fun _ _ e => e)).put1 HI.out.1 HI.out.2 (by omega) (by have := HZ.out; omega)
  have T2 : Hid (Tch (fun j => j = b) w (w.drew.setCell ⟨b, i * 256 + j, none⟩ (.int .u8 (Z : Int)))) := Tch.trans (S := fun j => j = b) (S' := fun j => j = b) (Tch.drew (Tch.refl _ w)) (tch_set w.drew b (i * 256 + j) _) (fun _ _ e => e)
  have HPW : Hid ((2 : Int) ^ r % 256 = (P : Int)) := by
    have h1 := hsh2
    rw [Nat.min_eq_left (by omega)] at h1
    rw [← h1]
    simp [IntKind.wrap, IntKind.bits, IntKind.signed, Hid]
  clear hZ hsh HX
  go_enter Try.func60, Try.ntmps60
  go_still_tail 12, (by kernel_rfl)
  go_wp2_with fail
  go_end0
  have hv : Go.bits .xor .u8 (y : Int) ((2 : Int) ^ r % 256) = (Z : Int) := by
    rw [show (2 : Int) ^ r % 256 = (P : Int) from HPW.out]
    exact hx
  rw [hv, HT.out]
  exact ⟨rfl, S2.out, T2.out⟩
end Go.Proofs.Ytgpaklifjonlkaa
/-
  A bit rots.
-/
namespace Go.Proofs.Ytgpaklifjonlkaa
open Go.RowKit Go.Maps
set_option linter.unusedVariables false
set_option linter.unusedSimpArgs false
set_option maxRecDepth 100000

/-- The first j are turned. -/
def tkj (b : Nat) (V : List (List Int)) (j : Nat) : List (List Int) := (V.take j).map (trn b) ++ V.drop j
theorem tkj_zero (b : Nat) (V : List (List Int)) : tkj b V 0 = V := by simp [tkj]
theorem tkj_len (b : Nat) (V : List (List Int)) (j : Nat) : (tkj b V j).length = V.length := by simp [tkj]; omega
theorem tkj_full (b : Nat) (V : List (List Int)) : tkj b V V.length = V.map (trn b) := by simp [tkj]
theorem tkj_step (b : Nat) (V : List (List Int)) {j : Nat} (hj : j < V.length) : (tkj b V j).set j (trn b ((tkj b V j).getD j [])) = tkj b V (j + 1) := by
  have hd : V.drop j = V[j] :: V.drop (j + 1) := by rw [List.drop_eq_getElem_cons hj]
  have hl : ((V.take j).map (trn b)).length = j := by simp; omega
  have hg : (tkj b V j).getD j [] = V[j] := by
    unfold tkj
    rw [List.getD_eq_getElem?_getD, List.getElem?_append_right (by omega), hl, Nat.sub_self, hd]
    rfl
  rw [hg]
  unfold tkj
  rw [List.set_append_right _ _ (by omega), hl, Nat.sub_self, hd, List.set_cons_zero, List.take_add_one, List.getElem?_eq_getElem hj, List.map_append, Option.toList_some, List.map_cons, List.map_nil, List.append_assoc, List.cons_append, List.nil_append]

theorem rot_bad {S : Nat → Prop} {d : Nat} {s : DS} (bit : Int) (w : World) (h : Dk S w d s) (hw : (Lit.int .i64 bit).wf = true) (hb : bit < 0 ∨ 2048 * (s.L.length : Int) ≤ bit) :
    Calls Try.prog 32 #[dp d, .int .i64 bit] w fun e w' => e = .returned (.int .i64 2) ∧ w' = w := by
  obtain ⟨lb, vb, lc, g, h⟩ := h
  have hw : -9223372036854775808 ≤ bit ∧ bit ≤ 9223372036854775807 := by simpa [Lit.wf, IntKind.min, IntKind.max, IntKind.signed, IntKind.bits] using hw
  obtain ⟨hw1, hw2⟩ := hw
  by_cases h0 : bit < 0
  · clear hb h
    have hq : -9223372036854775808 ≤ bit.tdiv 2048 ∧ bit.tdiv 2048 ≤ 9223372036854775807 := by
      obtain ⟨m, rfl⟩ : ∃ m : Nat, bit = -(m : Int) := ⟨(-bit).toNat, by omega⟩
      have : (-(m : Int)).tdiv 2048 = -((m / 2048 : Nat) : Int) := by rw [Int.neg_tdiv]; rfl
      rw [this]
      have := Nat.div_le_self m 2048
      omega
    obtain ⟨hq1, hq2⟩ := hq
    obtain ⟨q, hqq⟩ : ∃ q, bit.tdiv 2048 = q := ⟨_, rfl⟩
    rw [hqq] at hq1 hq2
    go_enter Try.func32, Try.ntmps32
    go_wp2_with fail
    go_ret
    exact ⟨rfl, rfl⟩
  · obtain ⟨m, rfl⟩ : ∃ m : Nat, bit = (m : Int) := ⟨bit.toNat, by omega⟩
    have hm : s.L.length ≤ m / 2048 := by omega
    have hf : (decide (0 ≤ ((m / 2048 : Nat) : Int)) && decide (((m / 2048 : Nat) : Int) < (s.L.length : Int))) = false := by
      rw [Bool.and_eq_false_iff, decide_eq_false_iff_not, decide_eq_false_iff_not]; omega
    have H := isThere_any ((m / 2048 : Nat) : Int) w h
    rw [hf] at H
    have H := hideP H
    obtain ⟨q, hqq⟩ : ∃ q, m / 2048 = q := ⟨_, rfl⟩
    have hdiv : (m : Int).tdiv 2048 = (q : Int) := by rw [← hqq]; rfl
    have hq1 : (q : Int) ≤ 9223372036854775807 := by omega
    rw [hqq] at H
    clear h hb hm hf hqq
    go_enter Try.func32, Try.ntmps32
    go_wp2_with fail
    refine H.out.mono ?_
    rintro e w ⟨rfl, rfl⟩
    clear H
    go_wp2_with fail
    go_ret
    exact ⟨rfl, rfl⟩

/-- Behind a bit that rots. -/
theorem DkAt.rotted {S : Nat → Prop} {w w1 w' : World} {d : Nat} {s : DS} {lb vb lc : Nat} {g : Nat → Option Value} (h : DkAt S w d s lb vb lc g) {i b : Nat} (hi : i < s.L.length) (hb : b < 2048)
    (t1 : Tch (fun j => j = lb) w w1) (hl : SecR w1 (.slice (some ⟨lb, 0, none⟩) s.L.length lc) (s.L.set i (trn b (s.L.getD i [])))) (t2 : Tch (fun j => (gv g i).ownBlock = some j) w1 w')
    (hv : ∀ v, g i = some v → SecR w' v ((s.V i).map (trn b))) :
    DkTo S w w' d { s with L := s.L.set i (trn b (s.L.getD i [])), V := vput s.V i ((s.V i).map (trn b)) } := by
  have hgs : ∀ k, (gv g i).ownBlock = some k → S k ∧ k ≠ d ∧ k ≠ lb ∧ k ≠ vb := fun k hk => by
    unfold gv at hk
    cases e : g i with
    | none => rw [e] at hk; cases hk
    | some u =>
      rw [e] at hk
      obtain ⟨b, cap, rfl, h1, h2, h3, h4, _⟩ := h.own e
      cases hk
      exact ⟨h4, h1, h3, h2⟩
  have hgj : ∀ j u k, g j = some u → j ≠ i → u.ownBlock = some k → (gv g i).ownBlock ≠ some k := fun j u k hj hne hk e => by
    unfold gv at e
    cases e2 : g i with
    | none => rw [e2] at e; cases e
    | some u2 =>
      rw [e2] at e
      exact h.apart j i u u2 hj e2 hne (hk.trans e.symm)
  have hd : w'.heap[d]? = w.heap[d]? := (t2.block d (Nat.lt_of_lt_of_le h.lt t1.size) (fun e => (hgs d e).2.1 rfl)).trans (t1.block d h.lt h.ne_lb)
  refine ⟨S, ⟨lb, vb, lc, g, ?_⟩, (t1.mono (S' := S) (fun k _ e => by rw [e]; exact h.sl)).trans t2 (fun k _ e => (hgs k e).1), fun k hk => .inl hk⟩
  exact {
    n1 := by simpa using h.n1
    n2 := by simpa using h.n2
    l30 := h.l30
    box := by rw [hd, h.box]; simp
    lies := by
      show SecR w' (.slice (some ⟨lb, 0, none⟩) (s.L.set i _).length lc) _
      rw [List.length_set]
      exact hl.tch t2 (fun j e => by cases e; exact fun e => (hgs _ e).2.2.1 rfl)
    map := by
      show Mp w' vb (s.L.set i _).length g
      rw [List.length_set]
      exact (h.map.tch t1 (fun e => h.lb_vb e.symm)).tch t2 (fun e => (hgs _ e).2.2.2 rfl)
    no := fun j hj => by
      by_cases e : j = i
      · subst e; simp [vput, h.no j hj]
      · simp only [vput, if_neg e]; exact h.no j hj
    yes := fun j u hj => by
      obtain ⟨h1, h2, h3, h4⟩ := h.yes j u hj
      by_cases e : j = i
      · subst e
        simp only [vput, if_pos]
        exact ⟨by simpa using h1, by simpa using h2, hv u hj, h4⟩
      · simp only [vput, if_neg e]
        obtain ⟨b, cap, rfl, _, _, h6, _⟩ := h.own hj
        exact ⟨by simpa using h1, h2, (h3.tch t1 (fun k hk => by cases hk; exact h6)).tch t2 (fun k hk => hgj j _ k hj e hk), h4⟩
    apart := h.apart
    sd := h.sd
    sl := h.sl
    sv := h.sv
    sg := h.sg
    slt := fun k hk => Nat.lt_of_lt_of_le (h.slt k hk) (Nat.le_trans t1.size t2.size) }

set_option maxHeartbeats 2000000 in
theorem rot_ok {S : Nat → Prop} {d : Nat} {s : DS} (m : Nat) (w : World) (h : Dk S w d s) (hm : m < 2048 * s.L.length) :
    Calls Try.prog 32 #[dp d, .int .i64 (m : Int)] w fun e w' => e = .returned (.int .i64 0) ∧ DkTo S w w' d (s.rot m) := by
  obtain ⟨lb, vb, lc, g, h⟩ := h
  have hi : m / 2048 < s.L.length := by omega
  have hb : m % 2048 < 2048 := Nat.mod_lt _ (by decide)
  have hf : (decide (0 ≤ ((m / 2048 : Nat) : Int)) && decide (((m / 2048 : Nat) : Int) < (s.L.length : Int))) = true := by
    rw [Bool.and_eq_true, decide_eq_true_eq, decide_eq_true_eq]; omega
  have H := isThere_any ((m / 2048 : Nat) : Int) w h
  rw [hf] at H
  have HROT : Hid (s.rot m = { s with L := s.L.set (m / 2048) (trn (m % 2048) (s.L.getD (m / 2048) [])), V := vput s.V (m / 2048) ((s.V (m / 2048)).map (trn (m % 2048))) }) := rfl
  have hm2 : m < 8388608 := by have := h.n2; omega
  obtain ⟨i, hii⟩ : ∃ i, m / 2048 = i := ⟨_, rfl⟩
  obtain ⟨b, hbb⟩ : ∃ b, m % 2048 = b := ⟨_, rfl⟩
  have hdiv : (m : Int).tdiv 2048 = (i : Int) := by rw [← hii]; rfl
  have hmod : (m : Int).tmod 2048 = (b : Int) := by rw [← hbb]; rfl
  rw [hii] at hi H HROT
  rw [hbb] at hb HROT
  have H := hideP H
  have c0 := h.c0
  have HD : Hid (DkAt S w d s lb vb lc g) := h
  have HI : Hid (i < s.L.length) := hi
  have HB : Hid (b < 2048) := hb
  have HTN := hideP (turn_any lb i b lc s.L.length s.L w h.lies hi hb)
  obtain ⟨n, hn⟩ : ∃ n, s.L.length = n := ⟨_, rfl⟩
  have HN : Hid (s.L.length = n) := hn
  rw [hn] at hi c0 HTN
  have hin : (i : Int) < (n : Int) := by omega
  have hi0 : (0 : Int) ≤ (i : Int) := by omega
  have hi63 : (i : Int) ≤ 9223372036854775807 := by omega
  have hb63 : (b : Int) < 2048 := by omega
  clear h hf hii hbb hn hm hb
  go_enter Try.func32, Try.ntmps32
  go_wp2_with fail
  refine H.out.mono ?_
  rintro e w ⟨rfl, rfl⟩
  clear H
  go_wp2_with fail
  refine HTN.out.mono ?_
  clear HTN
  rintro e w1 ⟨rfl, hs1, ht1⟩
  have L1 : Hid (SecR w1 (.slice (some ⟨lb, 0, none⟩) n lc) (s.L.set i (trn b (s.L.getD i [])))) := hs1
  have T1 : Hid (Tch (fun j => j = lb) w w1) := ht1
  have c1 : w1.cell? ⟨d, 1, none⟩ = some (.map (some vb)) := by rw [ht1.cell (p := ⟨d, 1, none⟩) HD.out.lt (fun e => HD.out.ne_lb e)]; exact HD.out.c1
  have LK := (HD.out.map.tch ht1 (fun e => HD.out.lb_vb e.symm)).look HI.out HD.out.n2
  have FIN : Hid (∀ w', Tch (fun j => (gv g i).ownBlock = some j) w1 w' → (∀ v, g i = some v → SecR w' v ((s.V i).map (trn b))) → DkTo S w w' d (s.rot m)) := fun w' t2 hv => by
    rw [HROT.out]
    refine HD.out.rotted HI.out HB.out T1.out ?_ t2 hv
    rw [HN.out]
    exact L1.out
  clear hs1 ht1 L1
  cases hg : g i with
  | none =>
    rw [show gv g i = .slice none 0 0 by simp [gv, hg]] at LK
    have HG : Hid (g i = none) := hg
    clear hg
    go_wp2_with fail
    go_loopw [35] (fun kv wr => kv = .int .i64 0 ∧ wr = w1) (fun _ _ => 0)
    case atStart => exact ⟨rfl, rfl⟩
    case round =>
      obtain ⟨rfl, rfl⟩ := hrel
      go_wp2_with fail
      go_ret
      exact ⟨rfl, FIN.out _ (Tch.refl _ _) (fun v e => by rw [HG.out] at e; cases e)⟩
  | some v =>
    obtain ⟨_, hv2, hv3, _⟩ := HD.out.yes i v hg
    obtain ⟨vb', cap, rfl, _, _, h6, _, hk0⟩ := HD.out.own hg
    have HG : Hid (g i = some (.slice (some ⟨vb', 0, none⟩) (s.V i).length cap)) := hg
    have HGV : Hid ((gv g i).ownBlock = some vb') := by show _ = _; simp [gv, hg, Value.ownBlock]
    rw [show gv g i = .slice (some ⟨vb', 0, none⟩) (s.V i).length cap by simp [gv, hg]] at LK
    have S1 : Hid (SecR w1 (.slice (some ⟨vb', 0, none⟩) (s.V i).length cap) (s.V i)) := hv3.tch T1.out (fun k hk => by cases hk; exact h6)
    have hcap : (s.V i).length ≤ cap ∧ cap ≤ maxLen := by obtain ⟨_, _, _, h1, h2, _⟩ := hv3.blk; exact ⟨h1, h2⟩
    obtain ⟨t, ht⟩ : ∃ t, (s.V i).length = t := ⟨_, rfl⟩
    have HT : Hid ((s.V i).length = t) := ht
    rw [ht] at LK S1 hcap hk0
    have ht63 : (t : Int) ≤ 9223372036854775807 := by have := hcap.1; have := hcap.2; unfold maxLen at this; omega
    clear hg hv2 hv3 h6 ht hcap
    go_wp2_with fail
    go_loopw [35] (fun kv wr => ∃ k : Nat, k ≤ t ∧ kv = .int .i64 k ∧ Hid (SecR wr (.slice (some ⟨vb', 0, none⟩) t cap) (tkj b (s.V i) k)) ∧ Hid (Tch (fun j => j = vb') w1 wr)) (fun kv _ => t - (intOf kv).toNat)
    case atStart => exact ⟨0, Nat.zero_le _, rfl, by rw [tkj_zero]; exact S1, Tch.refl _ _⟩
    case round =>
      obtain ⟨k, hk, rfl, SK, TK⟩ := hrel
      by_cases hkt : k < t
      · have hki : (k : Int) < (t : Int) := by omega
        have hk0' : (0 : Int) ≤ (k : Int) := by omega
        have HTN := hideP (turn_any vb' k b cap t (tkj b (s.V i) k) wr SK.out (by rw [tkj_len, HT.out]; exact hkt) HB.out)
        go_wp2_with fail
        refine HTN.out.mono ?_
        clear HTN
        rintro e w2 ⟨rfl, hs2, ht2⟩
        rw [tkj_step b (s.V i) (by rw [HT.out]; exact hkt)] at hs2
        have S2 : Hid (SecR w2 (.slice (some ⟨vb', 0, none⟩) t cap) (tkj b (s.V i) (k + 1))) := hs2
        have T2 : Hid (Tch (fun j => j = vb') w1 w2) := TK.out.trans ht2 (fun _ _ e => e)
        clear hs2 ht2
        go_wp2_with fail
        go_roundw
        case rel => exact ⟨k + 1, by omega, by go_num, S2, T2⟩
        case measure => simp [intOf]; omega
      · have hki : ¬ (k : Int) < (t : Int) := by omega
        have HK : Hid (k = t) := by show _ = _; omega
        clear hkt
        go_wp2_with fail
        go_ret
        refine ⟨rfl, FIN.out _ (TK.out.mono (fun j _ e => by rw [e]; exact HGV.out)) (fun v e => ?_)⟩
        rw [HG.out] at e
        cases e
        have := SK.out
        rw [HK.out, ← HT.out, tkj_full] at this
        exact this
end Go.Proofs.Ytgpaklifjonlkaa
/-
  Each deed of the program's disk, for whatever is asked.
-/
namespace Go.Proofs.Ytgpaklifjonlkaa
open Go.RowKit Go.Maps
set_option linter.unusedVariables false
set_option linter.unusedSimpArgs false
set_option maxRecDepth 100000

/-- What a Write answers, and leaves. -/
def wco (s : DS) (at_ : Int) (n : Nat) : Int := if at_ < 0 ∨ (s.L.length : Int) ≤ at_ then 2 else if n = 256 then 0 else 1
def wrr (s : DS) (at_ : Int) (xs : List Int) : DS := if at_ < 0 ∨ (s.L.length : Int) ≤ at_ then s else if xs.length = 256 then s.wr at_.toNat xs else s
/-- What a Rot answers, and leaves. -/
def rco (s : DS) (b : Int) : Int := if b < 0 ∨ 2048 * (s.L.length : Int) ≤ b then 2 else 0
def rtt (s : DS) (b : Int) : DS := if b < 0 ∨ 2048 * (s.L.length : Int) ≤ b then s else s.rot b.toNat
/-- What a Read answers. -/
def dco (s : DS) (at_ : Int) : Int := if at_ < 0 ∨ (s.L.length : Int) ≤ at_ then 2 else 0
def dhs (s : DS) (at_ : Int) : List Int := if at_ < 0 ∨ (s.L.length : Int) ≤ at_ then [] else s.has at_.toNat

section
variable {S : Nat → Prop} {d : Nat} {s : DS}
theorem write_all (at_ : Int) (v : Value) (xs : List Int) (w : World) (h : Dk S w d s) (hr : Rd .u8 w v xs) (hy : By xs) (hv : ∀ k, v.ownBlock = some k → ¬ S k) (hm : ∀ i, (s.V i).length < 274877906943) :
    Calls Try.prog 74 #[dp d, .int .i64 at_, v] w fun e w' => e = .returned (.int .i64 (wco s at_ xs.length)) ∧ DkTo S w w' d (wrr s at_ xs) := by
  unfold wco wrr
  by_cases hb : at_ < 0 ∨ (s.L.length : Int) ≤ at_
  · rw [if_pos hb, if_pos hb]
    obtain ⟨a, cap, rfl, _⟩ := hr
    refine (write_range at_ a _ cap w h hb).mono ?_
    rintro e w' ⟨rfl, rfl⟩
    exact ⟨rfl, h.to⟩
  · rw [if_neg hb, if_neg hb]
    obtain ⟨i, rfl⟩ : ∃ i : Nat, at_ = (i : Int) := ⟨at_.toNat, by omega⟩
    by_cases hx : xs.length = 256
    · rw [if_pos hx, if_pos hx]
      exact write_ok i v xs w h (by omega) hr hx hy hv (hm i)
    · rw [if_neg hx, if_neg hx]
      obtain ⟨a, cap, rfl, h1, h2, _⟩ := hr
      refine (write_len i a _ cap w h (by omega) hx (Nat.le_trans h1 h2)).mono ?_
      rintro e w' ⟨rfl, rfl⟩
      exact ⟨rfl, h.to⟩
theorem rot_all (b : Int) (w : World) (h : Dk S w d s) (hw : (Lit.int .i64 b).wf = true) :
    Calls Try.prog 32 #[dp d, .int .i64 b] w fun e w' => e = .returned (.int .i64 (rco s b)) ∧ DkTo S w w' d (rtt s b) := by
  unfold rco rtt
  by_cases hb : b < 0 ∨ 2048 * (s.L.length : Int) ≤ b
  · rw [if_pos hb, if_pos hb]
    refine (rot_bad b w h hw hb).mono ?_
    rintro e w' ⟨rfl, rfl⟩
    exact ⟨rfl, h.to⟩
  · rw [if_neg hb, if_neg hb]
    obtain ⟨i, rfl⟩ : ∃ i : Nat, b = (i : Int) := ⟨b.toNat, by omega⟩
    exact rot_ok i w h (by omega)
/-- Nothing, or bytes that may be written. -/
def Wz (w : World) (v : Value) (xs : List Int) : Prop := (v = .slice none 0 0 ∧ xs = []) ∨ Wb w v xs
theorem Wz.rd {w : World} {v : Value} {xs : List Int} (h : Wz w v xs) : Rd .u8 w v xs := by
  rcases h with ⟨rfl, rfl⟩ | h
  · exact (owns_nil .u8 5 w).rd
  · exact h.rd
theorem Wz.tch {R : Nat → Prop} {w w' : World} {v : Value} {xs : List Int} (h : Wz w v xs) (ht : Tch R w w') (hn : ∀ j, v.ownBlock = some j → ¬ R j) : Wz w' v xs := by
  rcases h with h | h
  · exact .inl h
  · exact .inr (h.tch ht hn)
theorem read_all (at_ : Int) (w : World) (h : Dk S w d s) :
    Calls Try.prog 42 #[dp d, .int .i64 at_] w fun e w' => ∃ v, e = .returned (.tuple #[v, .int .i64 (dco s at_)]) ∧ Wz w' v (dhs s at_) ∧ Below w.heap.size w w' ∧ ∀ k, v.ownBlock = some k → w.heap.size ≤ k := by
  unfold dco dhs
  by_cases hb : at_ < 0 ∨ (s.L.length : Int) ≤ at_
  · rw [if_pos hb, if_pos hb]
    refine (read_bad at_ w h hb).mono ?_
    rintro e w' ⟨rfl, rfl⟩
    exact ⟨_, rfl, .inl ⟨rfl, rfl⟩, Below.refl _ _, fun k hk => by cases hk⟩
  · rw [if_neg hb, if_neg hb]
    obtain ⟨i, rfl⟩ : ∃ i : Nat, at_ = (i : Int) := ⟨at_.toNat, by omega⟩
    refine (read_ok i w h (by omega)).mono ?_
    rintro e w' ⟨v, rfl, h1, h2, h3⟩
    exact ⟨v, rfl, .inr h1, h2, h3⟩
end

end Go.Proofs.Ytgpaklifjonlkaa
