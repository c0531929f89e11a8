import Derived.Test.YtgpaklifjonlkaaKP11
import Derived.Test.YtgpaklifjonlkaaKP19
/-
  The power goes: of each sector with versions the one that the pick says persists.
-/
namespace Go.Proofs.Ytgpaklifjonlkaa
open Go.RowKit Go.Maps
set_option linter.unusedVariables false
set_option linter.unusedSimpArgs false
set_option maxRecDepth 100000

theorem neg_lt_tmod (p : Int) {b : Int} (hb : 0 < b) : -b < p.tmod b := by
  have h := Int.tmod_lt_of_pos (-p) hb
  rw [Int.neg_tmod] at h
  omega

theorem tmod_mod (p b : Int) (hb : 0 < b) : (p.tmod b + b).tmod b = p % b := by
  have h1 : -b < p.tmod b := by
    have := neg_lt_tmod p hb
    exact this
  rw [Int.tmod_eq_emod_of_nonneg (by omega), Int.add_emod_right]
  have h2 : p.tmod b = p - b * p.tdiv b := by have := Int.tmod_add_mul_tdiv p b; omega
  rw [h2, Int.sub_emod, Int.mul_emod_right, Int.sub_zero, Int.emod_emod]

theorem rem_lt (p : Int) (m : Nat) : rem p m < m + 1 := by
  unfold rem
  have := Int.emod_lt_of_pos p (b := (m : Int) + 1) (by omega)
  have := Int.emod_nonneg p (b := (m : Int) + 1) (by omega)
  omega

theorem remainder_any (p : Int) (m : Nat) (hm : m < 274877906944) (w : World) : Calls Try.prog 77 #[.int .i64 p, .int .i64 ((m : Int) + 1)] w fun e w' => e = .returned (.int .i64 (rem p m : Int)) ∧ w' = w := by
  have hb : (0 : Int) < (m : Int) + 1 := by omega
  have H := tmod_mod p _ hb
  have h1 : -((m : Int) + 1) < p.tmod ((m : Int) + 1) := neg_lt_tmod p hb
  have h2 : p.tmod ((m : Int) + 1) < (m : Int) + 1 := Int.tmod_lt_of_pos p hb
  have h3 : (rem p m : Int) = p % ((m : Int) + 1) := by
    unfold rem
    have := Int.emod_nonneg p (b := (m : Int) + 1) (by omega)
    omega
  rw [h3, ← H]
  obtain ⟨b, hbb⟩ : ∃ b, (m : Int) + 1 = b := ⟨_, rfl⟩
  rw [hbb] at hb h1 h2 ⊢
  have hb2 : b ≤ 274877906944 := by omega
  have hb0 : (b == 0) = false := by rw [beq_eq_false_iff_ne]; omega
  have hbm : (b == -1) = false := by rw [beq_eq_false_iff_ne]; omega
  clear H h3 hbb hm
  obtain ⟨x, hx⟩ : ∃ x, p.tmod b = x := ⟨_, rfl⟩
  rw [hx] at h1 h2 ⊢
  obtain ⟨y, hy⟩ : ∃ y, (x + b).tmod b = y := ⟨_, rfl⟩
  have h4 : y < b := by rw [← hy]; exact Int.tmod_lt_of_pos _ hb
  have h5 : -b < y := by rw [← hy]; exact neg_lt_tmod _ hb
  rw [hy]
  go_enter Try.func77, Try.ntmps77
  go_wp2_with fail
  go_ret
  refine ⟨?_, rfl⟩
  first | rfl | (simp; omega)

/-- A sector's versions are gone. -/
theorem DkAt.persisted {S : Nat → Prop} {w w' : World} {d : Nat} {s : DS} {lb vb lc : Nat} {g : Nat → Option Value} (h : DkAt S w d s lb vb lc g) {i : Nat} (hi : i < s.L.length) {M : List (List Int)} (hM : M.length = s.L.length)
    {wa : World} (ta : Tch (fun k => k = lb) w wa) (hl : SecR wa (.slice (some ⟨lb, 0, none⟩) s.L.length lc) M) (hm : Mp w' vb s.L.length (gput g i none)) (tb : Tch (fun k => k = vb) wa w') :
    DkTo S w w' d { s with L := M, V := vput s.V i [] } := by
  have hsz := ta.size
  have hd1 : wa.heap[d]? = w.heap[d]? := ta.block d h.lt (fun e => h.ne_lb e)
  have hd2 : w'.heap[d]? = wa.heap[d]? := tb.block d (Nat.lt_of_lt_of_le h.lt hsz) (fun e => h.ne_vb e)
  refine ⟨S, ⟨lb, vb, lc, gput g i none, ?_⟩, ?_, fun k hk => .inl hk⟩
  · exact {
      n1 := by rw [hM]; exact h.n1
      n2 := by rw [hM]; exact h.n2
      l30 := h.l30
      box := by rw [hd2, hd1, h.box, hM]
      lies := by
        show SecR w' (.slice (some ⟨lb, 0, none⟩) M.length lc) M
        rw [hM]
        exact hl.tch tb (fun j e => by cases e; exact fun e => h.lb_vb e)
      map := by show Mp w' vb M.length _; rw [hM]; exact hm
      no := fun j hj => by
        by_cases e : j = i
        · simp only [vput, if_pos e]
        · simp only [gput, if_neg e] at hj
          simp only [vput, if_neg e]
          exact h.no j hj
      yes := fun j u hj => by
        by_cases e : j = i
        · simp only [gput, if_pos e] at hj
          cases hj
        · simp only [gput, if_neg e] at hj
          simp only [vput, if_neg e]
          obtain ⟨h1, h2, h3, h4⟩ := h.yes j u hj
          obtain ⟨b, cap, rfl, _, h5, h6, _⟩ := h.own hj
          exact ⟨by rw [hM]; exact h1, h2, (h3.tch ta (fun k hk => by cases hk; exact h6)).tch tb (fun k hk => by cases hk; exact h5), h4⟩
      apart := fun j k u u2 hj hk hne => by
        have e : j ≠ i := fun e => by simp only [gput, if_pos e] at hj; cases hj
        have e2 : k ≠ i := fun e => by simp only [gput, if_pos e] at hk; cases hk
        simp only [gput, if_neg e] at hj
        simp only [gput, if_neg e2] at hk
        exact h.apart j k u u2 hj hk hne
      sd := h.sd
      sl := h.sl
      sv := h.sv
      sg := fun j u k hj hk => by
        have e : j ≠ i := fun e => by simp only [gput, if_pos e] at hj; cases hj
        simp only [gput, if_neg e] at hj
        exact h.sg j u k hj hk
      slt := fun k hk => Nat.lt_of_lt_of_le (h.slt k hk) (Nat.le_trans hsz tb.size) }
  · exact (ta.mono (S' := S) (fun k _ e => by rw [e]; exact h.sl)).trans tb (fun k _ e => by rw [e]; exact h.sv)

set_option maxHeartbeats 2000000 in
theorem persist_any {S : Nat → Prop} {d : Nat} {s : DS} (i : Nat) (p : Int) (w : World) (h : Dk S w d s) (hi : i < s.L.length) (hV : s.V i ≠ []) (hm : (s.V i).length < 274877906944) :
    Calls Try.prog 58 #[dp d, .int .i64 (i : Int), .int .i64 p] w fun e w' => e = .returned (.tuple #[]) ∧ DkTo S w w' d (s.per i p) := by
  obtain ⟨lb, vb, lc, g, h⟩ := h
  obtain ⟨v, hgi⟩ : ∃ v, g i = some v := by
    cases e : g i with
    | none => exact absurd (h.no i e) hV
    | some v => exact ⟨v, rfl⟩
  obtain ⟨_, _, hv3, _⟩ := h.yes i v hgi
  obtain ⟨b, cap, rfl, hbd, hbv, hbl, hbS, hk0⟩ := h.own hgi
  have LK := h.map.look hi h.n2
  rw [show gv g i = .slice (some ⟨b, 0, none⟩) (s.V i).length cap by simp [gv, hgi]] at LK
  have c0 := h.c0
  have c1 := h.c1
  have HD : Hid (DkAt S w d s lb vb lc g) := h
  have HM : Hid (Mp w vb s.L.length g) := h.map
  have HR := hideP (remainder_any p (s.V i).length hm w)
  have hrl := rem_lt p (s.V i).length
  have HSV : Hid (SecR w (.slice (some ⟨b, 0, none⟩) (s.V i).length cap) (s.V i)) := hv3
  have HI63 : Hid (i < 9223372036854775808) := by have := h.n2; show _ < _; omega
  have HIN : Hid (i < s.L.length) := hi
  have HLL : Hid (SecR w (.slice (some ⟨lb, 0, none⟩) s.L.length lc) s.L) := h.lies
  have HPER : Hid (s.per i p = { s with L := if 0 < rem p (s.V i).length then s.L.set i ((s.V i).getD (rem p (s.V i).length - 1) []) else s.L, V := vput s.V i [] }) := rfl
  obtain ⟨hv74, hi74⟩ := zero_of_info info_sec2
  have HI7 : Hid ((Try.prog.info? 101).map (·.size) = some 256) := hi74
  have HNE : Hid (b ≠ lb ∧ d ≠ lb) := ⟨hbl, h.ne_lb⟩
  obtain ⟨n, hn⟩ : ∃ n, s.L.length = n := ⟨_, rfl⟩
  have HN : Hid (s.L.length = n) := hn
  obtain ⟨m, hmm⟩ : ∃ m, (s.V i).length = m := ⟨_, rfl⟩
  have HMM : Hid ((s.V i).length = m) := hmm
  obtain ⟨q, hq⟩ : ∃ q, rem p (s.V i).length = q := ⟨_, rfl⟩
  rw [hq] at HR hrl HPER
  rw [hmm] at HR LK HSV hrl hm
  rw [hn] at c0 HM HLL hi
  clear hv74 hi74 hgi hv3 hbd hbv hbl hbS hq hn hk0 hmm h hV
  have hin : (i : Int) < (n : Int) := by omega
  have hi0 : (0 : Int) ≤ (i : Int) := by omega
  by_cases hq0 : 0 < q
  · obtain ⟨j, hj⟩ : ∃ j, q = j + 1 := ⟨q - 1, by omega⟩
    have hqI : (q : Int) > 0 := by omega
    have HJW : Hid (IntKind.i64.wrap (j : Int) = (j : Int)) := by show _ = _; rw [IntKind.wrap_i64]; omega
    have hqj : (q : Int) - 1 = (j : Int) := by omega
    have hj0 : (0 : Int) ≤ (j : Int) := by omega
    have hjm : (j : Int) < (m : Int) := by omega
    have HQJ : Hid (q - 1 = j ∧ j < m) := ⟨by omega, by omega⟩
    have HQ0 : Hid (0 < q) := hq0
    rw [if_pos hq0, HQJ.out.1] at HPER
    have LV : w.rangeAt b (j * 256) (bcs ((s.V i).getD j [])) := HSV.out.load (by rw [HMM.out]; exact HQJ.out.2)
    have LY := HSV.out.1.get (i := j) (by rw [HMM.out]; exact HQJ.out.2)
    obtain ⟨y, hy⟩ : ∃ y, (s.V i).getD j [] = y := ⟨_, rfl⟩
    rw [hy] at LV LY HPER
    have HY1 : Hid (y.length = 256 ∧ By y) := LY
    have hu74 := Try.underlying101
    have hs74 : (Try.prog.info? 101).map (·.size) = some (bcs y).length := by rw [HI7.out, bcs_len, HY1.out.1]
    have TH : Hid (w.there lb (i * 256) 256) := HLL.out.there HIN.out
    have hS : w.drew.cell? ⟨d, 0, none⟩ = some (.slice (some ⟨lb, 0, none⟩) n lc) ∧ w.drew.rangeAt b (j * 256) (bcs y) := ⟨c0, LV⟩
    clear LY hy hj hq0 hrl
    go_enter Try.func58, Try.ntmps58
    go_wp2_with fail
    refine HR.out.mono ?_
    rintro e w ⟨rfl, rfl⟩
    clear HR
    go_wp2_with fail
    refine wp_region_held (S := fun w' => w'.cell? ⟨d, 0, none⟩ = some (.slice (some ⟨lb, 0, none⟩) n lc) ∧ w'.rangeAt b (j * 256) (bcs y)) (by kernel_rfl) ?_
    refine takeT 0 (some 21) (.move (.tmp 0)) (Value.pointer (some ⟨d, 0, none⟩)) rfl (by kernel_rfl) (by kernel_rfl) (by kernel_rfl) (fun _ _ _ h => h) ?hy hS ?_
    case hy =>
      rintro o ho w' ⟨hS1, hS2⟩
      go_simp
    simp only [Act.put, List.setIfInBounds_toArray, List.set_cons_zero, List.set_cons_succ]
    refine takeT 1 (some 22) (.nilCheck (.tmp 21)) (Value.pointer (some ⟨d, 0, none⟩)) rfl (by kernel_rfl) (by kernel_rfl) (by kernel_rfl) (fun _ _ _ h => h) ?hy hS ?_
    case hy =>
      rintro o ho w' ⟨hS1, hS2⟩
      go_simp
    simp only [Act.put, List.setIfInBounds_toArray, List.set_cons_zero, List.set_cons_succ]
    refine takeT 2 (some 23) (.fieldAddr 64 (.tmp 22) 0) (Value.pointer (some ⟨d, 0, none⟩)) rfl (by kernel_rfl) (by kernel_rfl) (by kernel_rfl) (fun _ _ _ h => h) ?hy hS ?_
    case hy =>
      rintro o ho w' ⟨hS1, hS2⟩
      go_simp
    simp only [Act.put, List.setIfInBounds_toArray, List.set_cons_zero, List.set_cons_succ]
    refine takeT 3 (some 24) (.load 61 (.tmp 23)) (Value.slice (some ⟨lb, 0, none⟩) n lc) rfl (by kernel_rfl) (by kernel_rfl) (by kernel_rfl) (fun _ _ _ h => h) ?hy hS ?_
    case hy =>
      rintro o ho w' ⟨hS1, hS2⟩
      go_simp
    simp only [Act.put, List.setIfInBounds_toArray, List.set_cons_zero, List.set_cons_succ]
    refine takeT 4 (some 25) (.move (.tmp 1)) (Value.int .i64 (i : Int)) rfl (by kernel_rfl) (by kernel_rfl) (by kernel_rfl) (fun _ _ _ h => h) ?hy hS ?_
    case hy =>
      rintro o ho w' ⟨hS1, hS2⟩
      go_simp
    simp only [Act.put, List.setIfInBounds_toArray, List.set_cons_zero, List.set_cons_succ]
    refine takeT 5 (some 26) (.move (.tmp 6)) (Value.slice (some ⟨b, 0, none⟩) m cap) rfl (by kernel_rfl) (by kernel_rfl) (by kernel_rfl) (fun _ _ _ h => h) ?hy hS ?_
    case hy =>
      rintro o ho w' ⟨hS1, hS2⟩
      go_simp
    simp only [Act.put, List.setIfInBounds_toArray, List.set_cons_zero, List.set_cons_succ]
    refine takeT 6 (some 27) (.move (.tmp 7)) (Value.int .i64 (q : Int)) rfl (by kernel_rfl) (by kernel_rfl) (by kernel_rfl) (fun _ _ _ h => h) ?hy hS ?_
    case hy =>
      rintro o ho w' ⟨hS1, hS2⟩
      go_simp
    simp only [Act.put, List.setIfInBounds_toArray, List.set_cons_zero, List.set_cons_succ]
    refine takeT 7 (some 28) (.binOp .sub 3 (.tmp 27) (.const (.int .i64 1)) 3) (Value.int .i64 (j : Int)) rfl (by kernel_rfl) (by kernel_rfl) (by kernel_rfl) (fun _ _ _ h => h) ?hy hS ?_
    case hy =>
      rintro o ho w' ⟨hS1, hS2⟩
      go_simp
      exact HJW.out
    simp only [Act.put, List.setIfInBounds_toArray, List.set_cons_zero, List.set_cons_succ]
    refine takeT 8 (some 29) (.indexAddr 61 (.tmp 26) (.tmp 28)) (Value.pointer (some ⟨b, j * 256, none⟩)) rfl (by kernel_rfl) (by kernel_rfl) (by kernel_rfl) (fun _ _ _ h => h) ?hy hS ?_
    case hy =>
      rintro o ho w' ⟨hS1, hS2⟩
      go_simp
    simp only [Act.put, List.setIfInBounds_toArray, List.set_cons_zero, List.set_cons_succ]
    refine takeArr 9 (some 30) 101 (.tmp 29) b (j * 256) (bcs y) _ rfl (by kernel_rfl) (by kernel_rfl) (by kernel_rfl) (fun _ _ _ h => h) rfl (fun w' h => h.2) hu74 rfl hs74 hS ?_
    simp only [Act.put, List.setIfInBounds_toArray, List.set_cons_zero, List.set_cons_succ]
    refine takeT 10 (some 31) (.indexAddr 61 (.tmp 24) (.tmp 25)) (Value.pointer (some ⟨lb, i * 256, none⟩)) rfl (by kernel_rfl) (by kernel_rfl) (by kernel_rfl) (fun _ _ _ h => h) ?hy hS ?_
    case hy =>
      rintro o ho w' ⟨hS1, hS2⟩
      go_simp
    simp only [Act.put, List.setIfInBounds_toArray, List.set_cons_zero, List.set_cons_succ]
    refine readyT 11 none (.store 101 (.tmp 31) (.tmp 30)) rfl (by kernel_rfl) ?_
    rintro o K hd ho hg hK
    refine wp_store_mid (w := w.drew) 101 (.tmp 31) (.tmp 30) ho lb (i * 256) (bcs y).toArray rfl rfl (by rw [List.size_toArray, bcs_len, HY1.out.1]; exact TH.out) (by rw [hs74, List.size_toArray]) (bcs_all y) ?_
    rw [hd]
    have T3 : Hid (Tch (fun k => k = lb) w (w.drew.setCells lb (i * 256) (bcs y))) := Tch.trans (S := fun k => k = lb) (S' := fun k => k = lb) (Tch.drew (Tch.refl _ w)) (setCells_tchD lb (bcs y) (i * 256) w.drew) (fun _ _ e => e)
    have W3 : Hid (SecR (w.drew.setCells lb (i * 256) (bcs y)) (.slice (some ⟨lb, 0, none⟩) n lc) (s.L.set i y)) := (show SecR w.drew (.slice (some ⟨lb, 0, none⟩) n lc) s.L from HLL.out.tch (S := fun _ => False) (Tch.drew (Tch.refl _ w)) (fun _ _ e => e)).put HIN.out HY1.out.1 HY1.out.2
    rw [List.toList_toArray]
    generalize hW4 : w.drew.setCells lb (i * 256) (bcs y) = W4 at T3 W3 ⊢
    have M4 : Hid (Mp W4 vb n g) := HM.out.tch T3.out (fun e => HD.out.lb_vb e.symm)
    have c4 : W4.cell? ⟨d, 1, none⟩ = some (.map (some vb)) := by rw [T3.out.cell (p := ⟨d, 1, none⟩) HD.out.lt (fun e => HNE.out.2 e)]; exact c1
    refine hK _ _ ⟨?_, ?_⟩ ?_
    · rw [T3.out.cell (p := ⟨d, 0, none⟩) HD.out.lt (fun e => HNE.out.2 e)]; exact c0
    · intro k v hv
      have h0 := LV k v hv
      rw [T3.out.cell (p := ⟨b, j * 256 + k, none⟩) (World.block_lt_of_cell? w ⟨b, j * 256 + k, none⟩ h0) (fun e => HNE.out.1 e)]; exact h0
    refine wpAnyH_done (by kernel_rfl) ?_ _
    clear ho hd hg hK hW4 hS LV
    simp only [Act.put]
    go_wp2_with (at_delete; refine wpList_delete_own _ rfl (.tmp 35) (.tmp 36) 62 3 rfl 61 keyed3 Try.underlying62 Rv vb n (Dm n g) rfl M4.out _ _ rfl (key3 (i := i) HI63.out) ?_; intro w5 hm5 ht5)
    have M5 : Hid (Mp w5 vb n (gput g i none)) := mp_of hm5 (dm_del (hm5.canon keyed3))
    have T5 : Hid (Tch (fun k => k = vb) W4 w5) := (Tch.of_grown ht5.grown).mono (fun k _ e => by cases e; rfl)
    clear hm5 ht5
    go_wp2_with fail
    go_end0
    refine ⟨rfl, ?_⟩
    rw [HPER.out]
    have hW3 := W3.out
    have hM5 := M5.out
    rw [← HN.out] at hW3 hM5
    exact HD.out.persisted HIN.out (by rw [List.length_set]) T3.out hW3 hM5 T5.out
  · have hqI : ¬ (q : Int) > 0 := by omega
    rw [if_neg hq0] at HPER
    clear hrl
    go_enter Try.func58, Try.ntmps58
    go_wp2_with fail
    refine HR.out.mono ?_
    rintro e w ⟨rfl, rfl⟩
    clear HR
    go_wp2_with (at_delete; refine wpList_delete_own _ rfl (.tmp 35) (.tmp 36) 62 3 rfl 61 keyed3 Try.underlying62 Rv vb n (Dm n g) rfl HM.out _ _ rfl (key3 (i := i) HI63.out) ?_; intro w5 hm5 ht5)
    have M5 : Hid (Mp w5 vb n (gput g i none)) := mp_of hm5 (dm_del (hm5.canon keyed3))
    have T5 : Hid (Tch (fun k => k = vb) w w5) := (Tch.of_grown ht5.grown).mono (fun k _ e => by cases e; rfl)
    clear hm5 ht5
    go_wp2_with fail
    go_end0
    refine ⟨rfl, ?_⟩
    rw [HPER.out]
    have hW3 := HLL.out
    have hM5 := M5.out
    rw [← HN.out] at hW3 hM5
    exact HD.out.persisted HIN.out rfl (Tch.refl _ _) hW3 hM5 T5.out
end Go.Proofs.Ytgpaklifjonlkaa
/-
  The power goes; a cut.
-/
namespace Go.Proofs.Ytgpaklifjonlkaa
open Go.RowKit Go.Maps
set_option linter.unusedVariables false
set_option linter.unusedSimpArgs false
set_option maxRecDepth 100000

theorem per_L (s : DS) (i : Nat) (p : Int) : (s.per i p).L.length = s.L.length := by
  unfold DS.per
  dsimp only
  split
  · rw [List.length_set]
  · rfl
theorem pers_L (s : DS) (ds : List Nat) (ps : List Int) : ∀ k, (s.pers ds ps k).L.length = s.L.length
  | 0 => rfl
  | k + 1 => by rw [DS.pers, per_L, pers_L s ds ps k]
theorem pers_V (s : DS) (ds : List Nat) (ps : List Int) (i : Nat) : ∀ k, k ≤ ds.length → (s.pers ds ps k).V i = if i ∈ ds.take k then [] else s.V i
  | 0, _ => by simp [DS.pers]
  | k + 1, hk => by
    have ih := pers_V s ds ps i k (by omega)
    have hd : ds.getD k 0 = ds[k] := by rw [List.getD_eq_getElem?_getD, List.getElem?_eq_getElem (by omega)]; rfl
    show vput (s.pers ds ps k).V (ds.getD k 0) [] i = _
    have hm : i ∈ ds.take (k + 1) ↔ i ∈ ds.take k ∨ i = ds[k] := by rw [List.take_succ_eq_append_getElem (by omega), List.mem_append, List.mem_singleton]
    rw [hd]
    unfold vput
    by_cases e : i = ds[k]
    · rw [if_pos e, if_pos (hm.2 (.inr e))]
    · rw [if_neg e, ih]
      by_cases h : i ∈ ds.take k
      · rw [if_pos h, if_pos (hm.2 (.inl h))]
      · rw [if_neg h, if_neg (fun h2 => by rcases hm.1 h2 with h3 | h3; exact h h3; exact e h3)]

theorem dirty_nodup (s : DS) : s.dirty.Nodup := by
  unfold DS.dirty
  exact List.Pairwise.filter _ List.nodup_range
theorem dirty_mem {s : DS} {i : Nat} : i ∈ s.dirty ↔ i < s.L.length ∧ s.V i ≠ [] := by
  unfold DS.dirty
  simp

theorem pers_at {s : DS} {ps : List Int} {k : Nat} (hk : k < s.dirty.length) : s.dirty.getD k 0 < s.L.length ∧ (s.pers s.dirty ps k).V (s.dirty.getD k 0) = s.V (s.dirty.getD k 0) ∧ s.V (s.dirty.getD k 0) ≠ [] := by
  have hd : s.dirty.getD k 0 = s.dirty[k] := by rw [List.getD_eq_getElem?_getD, List.getElem?_eq_getElem hk]; rfl
  rw [hd]
  have hm := dirty_mem.1 (List.getElem_mem hk)
  refine ⟨hm.1, ?_, hm.2⟩
  rw [pers_V _ _ _ _ _ (by omega), if_neg]
  intro h
  obtain ⟨j, hj, e⟩ := List.getElem_of_mem h
  rw [List.getElem_take] at e
  have hj2 : j < k := by simp at hj; omega
  have := (List.getElem_inj (dirty_nodup s)).1 e
  omega

theorem DkAt.set23 {S : Nat → Prop} {w : World} {d : Nat} {s : DS} {lb vb lc : Nat} {g : Nat → Option Value} (h : DkAt S w d s lb vb lc g) (c : Bool) (l : Nat) (hl : l ≤ 1073741824) :
    DkTo S w ((w.setCell ⟨d, 2, none⟩ (.bool c)).setCell ⟨d, 3, none⟩ (.int .i64 (l : Int))) d { s with c := c, l := l } := by
  refine ⟨S, ⟨lb, vb, lc, g, ((h.set2 c).set3 l hl)⟩, ?_, fun k hk => .inl hk⟩
  have t1 := (tch_set w d 2 (.bool c)).mono (S' := S) (fun k _ e => by rw [e]; exact h.sd)
  have t2 := (tch_set (w.setCell ⟨d, 2, none⟩ (.bool c)) d 3 (.int .i64 (l : Int))).mono (S' := S) (fun k _ e => by rw [e]; exact h.sd)
  exact t1.trans t2 (fun _ _ e => e)

set_option maxHeartbeats 2000000 in
theorem power_any {S : Nat → Prop} {d : Nat} {s : DS} (pv : Value) (ps : List Int) (w : World) (h : Dk S w d s) (hr : Rd .i64 w pv ps) (hp : ∀ k, pv.ownBlock = some k → ps ≠ [] → ¬ S k) (hV : ∀ i, (s.V i).length < 274877906944) :
    Calls Try.prog 30 #[dp d, pv] w fun e w' => e = .returned (.tuple #[]) ∧ DkTo S w w' d (s.pw ps) := by
  have HD : Hid (Dk S w d s) := h
  have HDY := hideP (dirty_any w h)
  have HR : Hid (Rd .i64 w pv ps) := hr
  obtain ⟨a, cap, rfl, hpl, hcm, _⟩ := hr
  have HP : Hid (∀ k, (Value.slice a ps.length cap).ownBlock = some k → ps ≠ [] → ¬ S k) := hp
  have HV : Hid (∀ i, (s.V i).length < 274877906944) := hV
  have HPL : Hid (ps.length ≤ 9223372036854775807) := by show _ ≤ _; unfold maxLen at hcm; omega
  clear h hp hV hcm hpl
  obtain ⟨m, hm⟩ : ∃ m, ps.length = m := ⟨_, rfl⟩
  have HM : Hid (ps.length = m) := hm
  rw [hm] at HR HP HPL ⊢
  have hm63 : (m : Int) ≤ 9223372036854775807 := by have := HPL.out; omega
  clear hm
  go_enter Try.func30, Try.ntmps30
  go_wp2_with fail
  refine HDY.out.mono ?_
  clear HDY
  rintro e w1 ⟨dv, rfl, ho1, hb1, hf1⟩
  have B1 : Hid (Below w.heap.size w w1) := hb1
  have D1 : Hid (Dk S w1 d s) := HD.out.below hb1
  have OD : Hid (Owns .i64 3 w1 dv (s.dirty.map Int.ofNat)) := ho1
  have F1 : Hid (∀ k, dv.ownBlock = some k → w.heap.size ≤ k ∧ k < w1.heap.size) := fun k hk => ⟨hf1 k hk, ho1.lt k hk⟩
  have HLN : Hid (s.dirty.length ≤ 4096) := by have := dirty_len s; obtain ⟨_, _, _, _, h⟩ := HD.out; have := h.n2; show _ ≤ _; omega
  obtain ⟨da, dc, hdv, hdl, hdm, hdn, hdc⟩ := ho1.rd
  rw [List.length_map] at hdv hdl hdc
  subst hdv
  have HDC : Hid ((s.dirty.map Int.ofNat) = [] ∨ ∃ b o, da = some ⟨b, o, none⟩ ∧ ∀ i, i < s.dirty.length → w1.cell? ⟨b, o + i, none⟩ = some (.int .i64 ((s.dirty.map Int.ofNat).getD i 0))) := hdc
  obtain ⟨t, ht⟩ : ∃ t, s.dirty.length = t := ⟨_, rfl⟩
  have HT : Hid (s.dirty.length = t) := ht
  have htb : t ≤ 4096 := by rw [← ht]; exact HLN.out
  rw [ht] at HDC OD F1 ⊢
  clear ho1 hb1 hf1 hdl hdm hdn hdc ht
  go_wp2_with fail
  go_loopw [10] (fun kv wr => ∃ (k : Nat), k ≤ t ∧ kv = .int .i64 k ∧ Hid (DkTo S w1 wr d (s.pers s.dirty ps k))) (fun kv _ => t - (intOf kv).toNat)
  case atStart => exact ⟨0, Nat.zero_le _, rfl, D1.out.to⟩
  case round =>
    obtain ⟨k, hk, rfl, DK⟩ := hrel
    by_cases hkt : k < t
    · have hki : (k : Int) < (t : Int) := by omega
      have hk0 : (0 : Int) ≤ (k : Int) := by omega
      obtain ⟨hA1, hA2, hA3⟩ := pers_at (s := s) (ps := ps) (k := k) (by rw [HT.out]; exact hkt)
      obtain ⟨Sx, hDx, hTx, hSx⟩ := DK.out
      have HSD : Hid (∀ k, S k → k < w.heap.size) := HD.out.slt
      obtain ⟨db, dO, rfl, hcell⟩ : ∃ b o, da = some ⟨b, o, none⟩ ∧ ∀ i, i < t → w1.cell? ⟨b, o + i, none⟩ = some (.int .i64 ((s.dirty.map Int.ofNat).getD i 0)) := by
        rcases HDC.out with e | e
        · have := congrArg List.length e
          rw [List.length_map, HT.out] at this
          simp at this
          omega
        · exact e
      have hF := F1.out db rfl
      have ck : wr.cell? ⟨db, dO + k, none⟩ = some (.int .i64 ((s.dirty.getD k 0 : Nat) : Int)) := by
        have h0 := hcell k hkt
        rw [hTx.cell (p := ⟨db, dO + k, none⟩) (World.block_lt_of_cell? w1 ⟨db, dO + k, none⟩ h0) (fun e => by have := HSD.out db e; have := hF.1; omega), h0]
        simp [List.getD_eq_getElem?_getD, List.getElem?_eq_getElem (show k < s.dirty.length by rw [HT.out]; exact hkt)]
      obtain ⟨i, hi⟩ : ∃ i, s.dirty.getD k 0 = i := ⟨_, rfl⟩
      rw [hi] at ck hA1 hA2 hA3
      have HSTEP : Hid (∀ p, p = ps.getD k 0 → Calls Try.prog 58 #[dp d, .int .i64 (i : Int), .int .i64 p] wr fun e w' => e = .returned (.tuple #[]) ∧ Hid (DkTo S w1 w' d (s.pers s.dirty ps (k + 1)))) := fun p hp => by
        refine (persist_any i p wr hDx (by rw [pers_L]; exact hA1) (by rw [hA2]; exact hA3) (by rw [hA2]; exact HV.out i)).mono ?_
        rintro e w' ⟨rfl, hD⟩
        refine ⟨rfl, ?_⟩
        have := DkTo.trans hDx hTx hSx hD
        rw [DS.pers, hi, ← hp]
        exact this
      clear hcell hA1 hA2 hA3 hDx hTx hSx hF
      by_cases hkm : k < m
      · have hkmi : (k : Int) < (m : Int) := by omega
        obtain ⟨pb, pO, rfl, hpc⟩ : ∃ b o, a = some ⟨b, o, none⟩ ∧ w.cell? ⟨b, o + k, none⟩ = some (.int .i64 (ps.getD k 0)) := by
          obtain ⟨a', cap', e, _, _, _, hcc⟩ := HR.out
          simp only [Value.slice.injEq] at e
          obtain ⟨rfl, _, rfl⟩ := e
          rcases hcc with e | ⟨b, o, rfl, hc⟩
          · rw [e] at HM; have := HM.out; simp at this; omega
          · exact ⟨b, o, rfl, hc k (by rw [HM.out]; exact hkm)⟩
        have cp : wr.cell? ⟨pb, pO + k, none⟩ = some (.int .i64 (ps.getD k 0)) := by
          obtain ⟨Sx, hDx, hTx, hSx⟩ := DK.out
          have hlt := World.block_lt_of_cell? w ⟨pb, pO + k, none⟩ hpc
          rw [hTx.cell (p := ⟨pb, pO + k, none⟩) (Nat.lt_of_lt_of_le hlt B1.out.size) (fun e => HP.out pb rfl (fun e2 => by have := HM.out; rw [e2] at this; simp at this; omega) e), B1.out.cell (p := ⟨pb, pO + k, none⟩) hlt]
          exact hpc
        obtain ⟨p, hp⟩ : ∃ p, ps.getD k 0 = p := ⟨_, rfl⟩
        rw [hp] at cp
        have HC := hideP (HSTEP.out p hp.symm)
        clear hpc hp HSTEP
        go_wp2_with fail
        refine HC.out.mono ?_
        clear HC
        rintro e w2 ⟨rfl, hD2⟩
        go_wp2_with fail
        go_roundw
        case rel => exact ⟨k + 1, by omega, by go_num, hD2⟩
        case measure => simp [intOf]; omega
      · have hkmi : ¬ (k : Int) < (m : Int) := by omega
        have HC := hideP (HSTEP.out 0 (by rw [List.getD_eq_getElem?_getD, List.getElem?_eq_none (by rw [HM.out]; omega)]; rfl))
        clear HSTEP
        go_wp2_with fail
        refine HC.out.mono ?_
        clear HC
        rintro e w2 ⟨rfl, hD2⟩
        go_wp2_with fail
        go_roundw
        case rel => exact ⟨k + 1, by omega, by go_num, hD2⟩
        case measure => simp [intOf]; omega
    · have hki : ¬ (k : Int) < (t : Int) := by omega
      have hkt2 : k = t := by omega
      have DK2 : Hid (DkTo S w1 wr d (s.pers s.dirty ps s.dirty.length)) := by rw [HT.out, ← hkt2]; exact DK.out
      obtain ⟨Sx, hDx, hTx, hSx⟩ := DK2.out
      obtain ⟨lb, vb, lc, g, hA⟩ := hDx
      have HA : Hid (DkAt Sx wr d (s.pers s.dirty ps s.dirty.length) lb vb lc g) := hA
      have HTX : Hid (Tch S w1 wr) := hTx
      have HSX : Hid (∀ k, Sx k → S k ∨ w1.heap.size ≤ k) := hSx
      have c2 := hA.c2
      have c3 := hA.c3
      have f2 := hA.fz 2
      have f3 := hA.fz 3
      clear hA hTx hSx DK DK2 hkt2
      go_wp2_with fail
      go_end0
      refine ⟨rfl, ?_⟩
      have h1 := HA.out.set23 false 0 (Nat.zero_le _)
      have t1 : Tch S w w1 := Tch.of_below B1.out
      have h2 : DkTo S w1 ((wr.setCell ⟨d, 2, none⟩ (.bool false)).setCell ⟨d, 3, none⟩ (.int .i64 ((0 : Nat) : Int))) d (s.pw ps) := DkTo.trans ⟨lb, vb, lc, g, HA.out⟩ HTX.out HSX.out h1
      exact DkTo.trans D1.out t1 (fun _ e => .inl e) h2
end Go.Proofs.Ytgpaklifjonlkaa
/-
  What the power leaves; a disk that was made since.
-/
namespace Go.Proofs.Ytgpaklifjonlkaa
open Go.RowKit Go.Maps
set_option linter.unusedVariables false
set_option linter.unusedSimpArgs false
set_option maxRecDepth 100000

theorem pers_L_nil (s : DS) (ds : List Nat) : ∀ k, (s.pers ds [] k).L = s.L
  | 0 => rfl
  | k + 1 => by
    rw [DS.pers]
    have : rem (([] : List Int).getD k 0) ((s.pers ds [] k).V (ds.getD k 0)).length = 0 := by simp [rem]
    unfold DS.per
    dsimp only
    rw [this, if_neg (by decide), pers_L_nil s ds k]
theorem pw_L_nil (s : DS) : (s.pw []).L = s.L := pers_L_nil s _ _
theorem pw_V (s : DS) (ps : List Int) (hV : ∀ i, s.L.length ≤ i → s.V i = []) (i : Nat) : (s.pw ps).V i = [] := by
  show (s.pers s.dirty ps s.dirty.length).V i = []
  rw [pers_V _ _ _ _ _ (Nat.le_refl _), List.take_length]
  by_cases h : i ∈ s.dirty
  · rw [if_pos h]
  · rw [if_neg h]
    by_cases h1 : i < s.L.length
    · by_cases h2 : s.V i = []
      · exact h2
      · exact absurd (dirty_mem.2 ⟨h1, h2⟩) h
    · exact hV i (by omega)
theorem pw_len (s : DS) (ps : List Int) : (s.pw ps).L.length = s.L.length := pers_L s _ ps _
theorem Dk.out_V {S : Nat → Prop} {w : World} {d : Nat} {s : DS} (h : Dk S w d s) : ∀ i, s.L.length ≤ i → s.V i = [] := fun i hi => by
  obtain ⟨lb, vb, lc, g, h⟩ := h
  cases e : g i with
  | none => exact h.no i e
  | some v => have := (h.yes i v e).1; omega
theorem Dk.len {S : Nat → Prop} {w : World} {d : Nat} {s : DS} (h : Dk S w d s) : 1 ≤ s.L.length ∧ s.L.length ≤ 4096 := by
  obtain ⟨lb, vb, lc, g, h⟩ := h
  exact ⟨h.n1, h.n2⟩
theorem has_of_nil {s : DS} {i : Nat} (h : s.V i = []) : s.has i = s.L.getD i [] := by unfold DS.has; rw [h]; rfl

theorem wr_V_le (s : DS) (i : Nat) (x : List Int) (j : Nat) : ((s.wr i x).V j).length ≤ (s.V j).length + 1 := by
  unfold DS.wr
  split
  · simp only [vput]
    split
    · rename_i e; subst e; simp
    · exact Nat.le_succ _
  · exact Nat.le_succ _
theorem fl_V_le (s : DS) (j : Nat) : (s.fl.V j).length ≤ (s.V j).length := by
  unfold DS.fl
  split
  · simp
  · exact Nat.le_refl _
theorem wr_L (s : DS) (i : Nat) (x : List Int) : (s.wr i x).L = s.L := by
  unfold DS.wr
  split <;> rfl
theorem fl_L (s : DS) : s.fl.L.length = s.L.length := by
  unfold DS.fl
  split <;> simp

/-- A disk that was made since w0. -/
def Dc (S : Nat → Prop) (w0 w : World) (d : Nat) (s : DS) : Prop := Dk S w d s ∧ Below w0.heap.size w0 w ∧ ∀ k, S k → w0.heap.size ≤ k

theorem Dc.to {S : Nat → Prop} {w0 w w' : World} {d : Nat} {s s' : DS} (h : Dc S w0 w d s) (k : DkTo S w w' d s') : ∃ S', Dc S' w0 w' d s' ∧ Tch S w w' ∧ ∀ k, S' k → S k ∨ w.heap.size ≤ k := by
  obtain ⟨S', h1, h2, h3⟩ := k
  refine ⟨S', ⟨h1, h.2.1.trans (h2.below h.2.1.size h.2.2), fun j hj => ?_⟩, h2, h3⟩
  rcases h3 j hj with e | e
  · exact h.2.2 j e
  · exact Nat.le_trans h.2.1.size e
theorem Dc.below {S : Nat → Prop} {w0 w w' : World} {d : Nat} {s : DS} (h : Dc S w0 w d s) (hb : Below w.heap.size w w') : Dc S w0 w' d s := ⟨h.1.below hb, h.2.1.trans (hb.mono h.2.1.size), h.2.2⟩
end Go.Proofs.Ytgpaklifjonlkaa
