/-
  The power goes: of each sector with versions the one that the pick says persists.
-/
import Derived.Test.YtaacidgihhcpkaaDFlush
import Derived.Test.YtaacidgihhcpkaaDDirty
namespace Go.Proofs.Ytaacidgihhcpkaa
open Go.RowKit Go.Maps
set_option linter.unusedVariables false
set_option linter.unusedSimpArgs false
set_option maxRecDepth 100000

theorem neg_lt_tmod (p : Int) {b : Int} (hb : 0 < b) : -b < p.tmod b := by
  have h := Int.tmod_lt_of_pos (-p) hb
  rw [Int.neg_tmod] at h
  omega

theorem tmod_mod (p b : Int) (hb : 0 < b) : (p.tmod b + b).tmod b = p % b := by
  have h1 : -b < p.tmod b := by
    have := neg_lt_tmod p hb
    exact this
  rw [Int.tmod_eq_emod_of_nonneg (by omega), Int.add_emod_right]
  have h2 : p.tmod b = p - b * p.tdiv b := by have := Int.tmod_add_mul_tdiv p b; omega
  rw [h2, Int.sub_emod, Int.mul_emod_right, Int.sub_zero, Int.emod_emod]

theorem rem_lt (p : Int) (m : Nat) : rem p m < m + 1 := by
  unfold rem
  have := Int.emod_lt_of_pos p (b := (m : Int) + 1) (by omega)
  have := Int.emod_nonneg p (b := (m : Int) + 1) (by omega)
  omega

theorem remainder_any (p : Int) (m : Nat) (hm : m < 274877906944) (w : World) : Calls Try.prog 52 #[.int .i64 p, .int .i64 ((m : Int) + 1)] w fun e w' => e = .returned (.int .i64 (rem p m : Int)) ∧ w' = w := by
  have hb : (0 : Int) < (m : Int) + 1 := by omega
  have H := tmod_mod p _ hb
  have h1 : -((m : Int) + 1) < p.tmod ((m : Int) + 1) := neg_lt_tmod p hb
  have h2 : p.tmod ((m : Int) + 1) < (m : Int) + 1 := Int.tmod_lt_of_pos p hb
  have h3 : (rem p m : Int) = p % ((m : Int) + 1) := by
    unfold rem
    have := Int.emod_nonneg p (b := (m : Int) + 1) (by omega)
    omega
  rw [h3, ← H]
  obtain ⟨b, hbb⟩ : ∃ b, (m : Int) + 1 = b := ⟨_, rfl⟩
  rw [hbb] at hb h1 h2 ⊢
  have hb2 : b ≤ 274877906944 := by omega
  have hb0 : (b == 0) = false := by rw [beq_eq_false_iff_ne]; omega
  have hbm : (b == -1) = false := by rw [beq_eq_false_iff_ne]; omega
  clear H h3 hbb hm
  obtain ⟨x, hx⟩ : ∃ x, p.tmod b = x := ⟨_, rfl⟩
  rw [hx] at h1 h2 ⊢
  obtain ⟨y, hy⟩ : ∃ y, (x + b).tmod b = y := ⟨_, rfl⟩
  have h4 : y < b := by rw [← hy]; exact Int.tmod_lt_of_pos _ hb
  have h5 : -b < y := by rw [← hy]; exact neg_lt_tmod _ hb
  rw [hy]
  go_enter Try.func52, Try.ntmps52
  go_wp2_with fail
  go_ret
  refine ⟨?_, rfl⟩
  first | rfl | (simp; omega)

/-- A sector's versions are gone. -/
theorem DkAt.persisted {S : Nat → Prop} {w w' : World} {d : Nat} {s : DS} {lb vb lc : Nat} {g : Nat → Option Value} (h : DkAt S w d s lb vb lc g) {i : Nat} (hi : i < s.L.length) {M : List (List Int)} (hM : M.length = s.L.length)
    {wa : World} (ta : Tch (fun k => k = lb) w wa) (hl : SecR wa (.slice (some ⟨lb, 0, none⟩) s.L.length lc) M) (hm : Mp w' vb s.L.length (gput g i none)) (tb : Tch (fun k => k = vb) wa w') :
    DkTo S w w' d { s with L := M, V := vput s.V i [] } := by
  have hsz := ta.size
  have hd1 : wa.heap[d]? = w.heap[d]? := ta.block d h.lt (fun e => h.ne_lb e)
  have hd2 : w'.heap[d]? = wa.heap[d]? := tb.block d (Nat.lt_of_lt_of_le h.lt hsz) (fun e => h.ne_vb e)
  refine ⟨S, ⟨lb, vb, lc, gput g i none, ?_⟩, ?_, fun k hk => .inl hk⟩
  · exact {
      n1 := by rw [hM]; exact h.n1
      n2 := by rw [hM]; exact h.n2
      l30 := h.l30
      box := by rw [hd2, hd1, h.box, hM]
      lies := by
        show SecR w' (.slice (some ⟨lb, 0, none⟩) M.length lc) M
        rw [hM]
        exact hl.tch tb (fun j e => by cases e; exact fun e => h.lb_vb e)
      map := by show Mp w' vb M.length _; rw [hM]; exact hm
      no := fun j hj => by
        by_cases e : j = i
        · simp only [vput, if_pos e]
        · simp only [gput, if_neg e] at hj
          simp only [vput, if_neg e]
          exact h.no j hj
      yes := fun j u hj => by
        by_cases e : j = i
        · simp only [gput, if_pos e] at hj
          cases hj
        · simp only [gput, if_neg e] at hj
          simp only [vput, if_neg e]
          obtain ⟨h1, h2, h3, h4⟩ := h.yes j u hj
          obtain ⟨b, cap, rfl, _, h5, h6, _⟩ := h.own hj
          exact ⟨by rw [hM]; exact h1, h2, (h3.tch ta (fun k hk => by cases hk; exact h6)).tch tb (fun k hk => by cases hk; exact h5), h4⟩
      apart := fun j k u u2 hj hk hne => by
        have e : j ≠ i := fun e => by simp only [gput, if_pos e] at hj; cases hj
        have e2 : k ≠ i := fun e => by simp only [gput, if_pos e] at hk; cases hk
        simp only [gput, if_neg e] at hj
        simp only [gput, if_neg e2] at hk
        exact h.apart j k u u2 hj hk hne
      sd := h.sd
      sl := h.sl
      sv := h.sv
      sg := fun j u k hj hk => by
        have e : j ≠ i := fun e => by simp only [gput, if_pos e] at hj; cases hj
        simp only [gput, if_neg e] at hj
        exact h.sg j u k hj hk
      slt := fun k hk => Nat.lt_of_lt_of_le (h.slt k hk) (Nat.le_trans hsz tb.size) }
  · exact (ta.mono (S' := S) (fun k _ e => by rw [e]; exact h.sl)).trans tb (fun k _ e => by rw [e]; exact h.sv)

set_option maxHeartbeats 2000000 in
theorem persist_any {S : Nat → Prop} {d : Nat} {s : DS} (i : Nat) (p : Int) (w : World) (h : Dk S w d s) (hi : i < s.L.length) (hV : s.V i ≠ []) (hm : (s.V i).length < 274877906944) :
    Calls Try.prog 38 #[dp d, .int .i64 (i : Int), .int .i64 p] w fun e w' => e = .returned (.tuple #[]) ∧ DkTo S w w' d (s.per i p) := by
  obtain ⟨lb, vb, lc, g, h⟩ := h
  obtain ⟨v, hgi⟩ : ∃ v, g i = some v := by
    cases e : g i with
    | none => exact absurd (h.no i e) hV
    | some v => exact ⟨v, rfl⟩
  obtain ⟨_, _, hv3, _⟩ := h.yes i v hgi
  obtain ⟨b, cap, rfl, hbd, hbv, hbl, hbS, hk0⟩ := h.own hgi
  have LK := h.map.look hi h.n2
  rw [show gv g i = .slice (some ⟨b, 0, none⟩) (s.V i).length cap by simp [gv, hgi]] at LK
  have c0 := h.c0
  have c1 := h.c1
  have HD : Hid (DkAt S w d s lb vb lc g) := h
  have HM : Hid (Mp w vb s.L.length g) := h.map
  have HR := hideP (remainder_any p (s.V i).length hm w)
  have hrl := rem_lt p (s.V i).length
  have HSV : Hid (SecR w (.slice (some ⟨b, 0, none⟩) (s.V i).length cap) (s.V i)) := hv3
  have HI63 : Hid (i < 9223372036854775808) := by have := h.n2; show _ < _; omega
  have HIN : Hid (i < s.L.length) := hi
  have HLL : Hid (SecR w (.slice (some ⟨lb, 0, none⟩) s.L.length lc) s.L) := h.lies
  have HPER : Hid (s.per i p = { s with L := if 0 < rem p (s.V i).length then s.L.set i ((s.V i).getD (rem p (s.V i).length - 1) []) else s.L, V := vput s.V i [] }) := rfl
  obtain ⟨hv74, hi74⟩ := zero_of_info info_sec2
  have HI7 : Hid ((Try.prog.info? 83).map (·.size) = some 256) := hi74
  have HNE : Hid (b ≠ lb ∧ d ≠ lb) := ⟨hbl, h.ne_lb⟩
  obtain ⟨n, hn⟩ : ∃ n, s.L.length = n := ⟨_, rfl⟩
  have HN : Hid (s.L.length = n) := hn
  obtain ⟨m, hmm⟩ : ∃ m, (s.V i).length = m := ⟨_, rfl⟩
  have HMM : Hid ((s.V i).length = m) := hmm
  obtain ⟨q, hq⟩ : ∃ q, rem p (s.V i).length = q := ⟨_, rfl⟩
  rw [hq] at HR hrl HPER
  rw [hmm] at HR LK HSV hrl hm
  rw [hn] at c0 HM HLL hi
  clear hv74 hi74 hgi hv3 hbd hbv hbl hbS hq hn hk0 hmm h hV
  have hin : (i : Int) < (n : Int) := by omega
  have hi0 : (0 : Int) ≤ (i : Int) := by omega
  by_cases hq0 : 0 < q
  · obtain ⟨j, hj⟩ : ∃ j, q = j + 1 := ⟨q - 1, by omega⟩
    have hqI : (q : Int) > 0 := by omega
    have HJW : Hid (IntKind.i64.wrap (j : Int) = (j : Int)) := by show _ = _; rw [IntKind.wrap_i64]; omega
    have hqj : (q : Int) - 1 = (j : Int) := by omega
    have hj0 : (0 : Int) ≤ (j : Int) := by omega
    have hjm : (j : Int) < (m : Int) := by omega
    have HQJ : Hid (q - 1 = j ∧ j < m) := ⟨by omega, by omega⟩
    have HQ0 : Hid (0 < q) := hq0
    rw [if_pos hq0, HQJ.out.1] at HPER
    have LV : w.rangeAt b (j * 256) (bcs ((s.V i).getD j [])) := HSV.out.load (by rw [HMM.out]; exact HQJ.out.2)
    have LY := HSV.out.1.get (i := j) (by rw [HMM.out]; exact HQJ.out.2)
    obtain ⟨y, hy⟩ : ∃ y, (s.V i).getD j [] = y := ⟨_, rfl⟩
    rw [hy] at LV LY HPER
    have HY1 : Hid (y.length = 256 ∧ By y) := LY
    have hu74 := Try.underlying83
    have hs74 : (Try.prog.info? 83).map (·.size) = some (bcs y).length := by rw [HI7.out, bcs_len, HY1.out.1]
    have TH : Hid (w.there lb (i * 256) 256) := HLL.out.there HIN.out
    have hS : w.drew.cell? ⟨d, 0, none⟩ = some (.slice (some ⟨lb, 0, none⟩) n lc) ∧ w.drew.rangeAt b (j * 256) (bcs y) := ⟨c0, LV⟩
    clear LY hy hj hq0 hrl
    go_enter Try.func38, Try.ntmps38
    go_wp2_with fail
    refine HR.out.mono ?_
    rintro e w ⟨rfl, rfl⟩
    clear HR
    go_wp2_with fail
    refine wp_region_held (S := fun w' => w'.cell? ⟨d, 0, none⟩ = some (.slice (some ⟨lb, 0, none⟩) n lc) ∧ w'.rangeAt b (j * 256) (bcs y)) (by kernel_rfl) ?_
    refine takeT 0 (some 21) (.move (.tmp 0)) (Value.pointer (some ⟨d, 0, none⟩)) rfl (by kernel_rfl) (by kernel_rfl) (by kernel_rfl) (fun _ _ _ h => h) ?hy hS ?_
    case hy =>
      rintro o ho w' ⟨hS1, hS2⟩
      go_simp
    simp only [Act.put, List.setIfInBounds_toArray, List.set_cons_zero, List.set_cons_succ]
    refine takeT 1 (some 22) (.nilCheck (.tmp 21)) (Value.pointer (some ⟨d, 0, none⟩)) rfl (by kernel_rfl) (by kernel_rfl) (by kernel_rfl) (fun _ _ _ h => h) ?hy hS ?_
    case hy =>
      rintro o ho w' ⟨hS1, hS2⟩
      go_simp
    simp only [Act.put, List.setIfInBounds_toArray, List.set_cons_zero, List.set_cons_succ]
    refine takeT 2 (some 23) (.fieldAddr 65 (.tmp 22) 0) (Value.pointer (some ⟨d, 0, none⟩)) rfl (by kernel_rfl) (by kernel_rfl) (by kernel_rfl) (fun _ _ _ h => h) ?hy hS ?_
    case hy =>
      rintro o ho w' ⟨hS1, hS2⟩
      go_simp
    simp only [Act.put, List.setIfInBounds_toArray, List.set_cons_zero, List.set_cons_succ]
    refine takeT 3 (some 24) (.load 62 (.tmp 23)) (Value.slice (some ⟨lb, 0, none⟩) n lc) rfl (by kernel_rfl) (by kernel_rfl) (by kernel_rfl) (fun _ _ _ h => h) ?hy hS ?_
    case hy =>
      rintro o ho w' ⟨hS1, hS2⟩
      go_simp
    simp only [Act.put, List.setIfInBounds_toArray, List.set_cons_zero, List.set_cons_succ]
    refine takeT 4 (some 25) (.move (.tmp 1)) (Value.int .i64 (i : Int)) rfl (by kernel_rfl) (by kernel_rfl) (by kernel_rfl) (fun _ _ _ h => h) ?hy hS ?_
    case hy =>
      rintro o ho w' ⟨hS1, hS2⟩
      go_simp
    simp only [Act.put, List.setIfInBounds_toArray, List.set_cons_zero, List.set_cons_succ]
    refine takeT 5 (some 26) (.move (.tmp 6)) (Value.slice (some ⟨b, 0, none⟩) m cap) rfl (by kernel_rfl) (by kernel_rfl) (by kernel_rfl) (fun _ _ _ h => h) ?hy hS ?_
    case hy =>
      rintro o ho w' ⟨hS1, hS2⟩
      go_simp
    simp only [Act.put, List.setIfInBounds_toArray, List.set_cons_zero, List.set_cons_succ]
    refine takeT 6 (some 27) (.move (.tmp 7)) (Value.int .i64 (q : Int)) rfl (by kernel_rfl) (by kernel_rfl) (by kernel_rfl) (fun _ _ _ h => h) ?hy hS ?_
    case hy =>
      rintro o ho w' ⟨hS1, hS2⟩
      go_simp
    simp only [Act.put, List.setIfInBounds_toArray, List.set_cons_zero, List.set_cons_succ]
    refine takeT 7 (some 28) (.binOp .sub 3 (.tmp 27) (.const (.int .i64 1)) 3) (Value.int .i64 (j : Int)) rfl (by kernel_rfl) (by kernel_rfl) (by kernel_rfl) (fun _ _ _ h => h) ?hy hS ?_
    case hy =>
      rintro o ho w' ⟨hS1, hS2⟩
      go_simp
      exact HJW.out
    simp only [Act.put, List.setIfInBounds_toArray, List.set_cons_zero, List.set_cons_succ]
    refine takeT 8 (some 29) (.indexAddr 62 (.tmp 26) (.tmp 28)) (Value.pointer (some ⟨b, j * 256, none⟩)) rfl (by kernel_rfl) (by kernel_rfl) (by kernel_rfl) (fun _ _ _ h => h) ?hy hS ?_
    case hy =>
      rintro o ho w' ⟨hS1, hS2⟩
      go_simp
    simp only [Act.put, List.setIfInBounds_toArray, List.set_cons_zero, List.set_cons_succ]
    refine takeArr 9 (some 30) 83 (.tmp 29) b (j * 256) (bcs y) _ rfl (by kernel_rfl) (by kernel_rfl) (by kernel_rfl) (fun _ _ _ h => h) rfl (fun w' h => h.2) hu74 rfl hs74 hS ?_
    simp only [Act.put, List.setIfInBounds_toArray, List.set_cons_zero, List.set_cons_succ]
    refine takeT 10 (some 31) (.indexAddr 62 (.tmp 24) (.tmp 25)) (Value.pointer (some ⟨lb, i * 256, none⟩)) rfl (by kernel_rfl) (by kernel_rfl) (by kernel_rfl) (fun _ _ _ h => h) ?hy hS ?_
    case hy =>
      rintro o ho w' ⟨hS1, hS2⟩
      go_simp
    simp only [Act.put, List.setIfInBounds_toArray, List.set_cons_zero, List.set_cons_succ]
    refine readyT 11 none (.store 83 (.tmp 31) (.tmp 30)) rfl (by kernel_rfl) ?_
    rintro o K hd ho hg hK
    refine wp_store_mid (w := w.drew) 83 (.tmp 31) (.tmp 30) ho lb (i * 256) (bcs y).toArray rfl rfl (by rw [List.size_toArray, bcs_len, HY1.out.1]; exact TH.out) (by rw [hs74, List.size_toArray]) (bcs_all y) ?_
    rw [hd]
    have T3 : Hid (Tch (fun k => k = lb) w (w.drew.setCells lb (i * 256) (bcs y))) := Tch.trans (S := fun k => k = lb) (S' := fun k => k = lb) (Tch.drew (Tch.refl _ w)) (setCells_tchD lb (bcs y) (i * 256) w.drew) (fun _ _ e => e)
    have W3 : Hid (SecR (w.drew.setCells lb (i * 256) (bcs y)) (.slice (some ⟨lb, 0, none⟩) n lc) (s.L.set i y)) := (show SecR w.drew (.slice (some ⟨lb, 0, none⟩) n lc) s.L from HLL.out.tch (S := fun _ => False) (Tch.drew (Tch.refl _ w)) (fun _ _ e => e)).put HIN.out HY1.out.1 HY1.out.2
    rw [List.toList_toArray]
    generalize hW4 : w.drew.setCells lb (i * 256) (bcs y) = W4 at T3 W3 ⊢
    have M4 : Hid (Mp W4 vb n g) := HM.out.tch T3.out (fun e => HD.out.lb_vb e.symm)
    have c4 : W4.cell? ⟨d, 1, none⟩ = some (.map (some vb)) := by rw [T3.out.cell (p := ⟨d, 1, none⟩) HD.out.lt (fun e => HNE.out.2 e)]; exact c1
    refine hK _ _ ⟨?_, ?_⟩ ?_
    · rw [T3.out.cell (p := ⟨d, 0, none⟩) HD.out.lt (fun e => HNE.out.2 e)]; exact c0
    · intro k v hv
      have h0 := LV k v hv
      rw [T3.out.cell (p := ⟨b, j * 256 + k, none⟩) (World.block_lt_of_cell? w ⟨b, j * 256 + k, none⟩ h0) (fun e => HNE.out.1 e)]; exact h0
    refine wpAnyH_done (by kernel_rfl) ?_ _
    clear ho hd hg hK hW4 hS LV
    simp only [Act.put]
    go_wp2_with (at_delete; refine wpList_delete_own _ rfl (.tmp 35) (.tmp 36) 63 3 rfl 62 keyed3 Try.underlying63 Rv vb n (Dm n g) rfl M4.out _ _ rfl (key3 (i := i) HI63.out) ?_; intro w5 hm5 ht5)
    have M5 : Hid (Mp w5 vb n (gput g i none)) := mp_of hm5 (dm_del (hm5.canon keyed3))
    have T5 : Hid (Tch (fun k => k = vb) W4 w5) := (Tch.of_grown ht5.grown).mono (fun k _ e => by cases e; rfl)
    clear hm5 ht5
    go_wp2_with fail
    go_end0
    refine ⟨rfl, ?_⟩
    rw [HPER.out]
    have hW3 := W3.out
    have hM5 := M5.out
    rw [← HN.out] at hW3 hM5
    exact HD.out.persisted HIN.out (by rw [List.length_set]) T3.out hW3 hM5 T5.out
  · have hqI : ¬ (q : Int) > 0 := by omega
    rw [if_neg hq0] at HPER
    clear hrl
    go_enter Try.func38, Try.ntmps38
    go_wp2_with fail
    refine HR.out.mono ?_
    rintro e w ⟨rfl, rfl⟩
    clear HR
    go_wp2_with (at_delete; refine wpList_delete_own _ rfl (.tmp 35) (.tmp 36) 63 3 rfl 62 keyed3 Try.underlying63 Rv vb n (Dm n g) rfl HM.out _ _ rfl (key3 (i := i) HI63.out) ?_; intro w5 hm5 ht5)
    have M5 : Hid (Mp w5 vb n (gput g i none)) := mp_of hm5 (dm_del (hm5.canon keyed3))
    have T5 : Hid (Tch (fun k => k = vb) w w5) := (Tch.of_grown ht5.grown).mono (fun k _ e => by cases e; rfl)
    clear hm5 ht5
    go_wp2_with fail
    go_end0
    refine ⟨rfl, ?_⟩
    rw [HPER.out]
    have hW3 := HLL.out
    have hM5 := M5.out
    rw [← HN.out] at hW3 hM5
    exact HD.out.persisted HIN.out rfl (Tch.refl _ _) hW3 hM5 T5.out
end Go.Proofs.Ytaacidgihhcpkaa
