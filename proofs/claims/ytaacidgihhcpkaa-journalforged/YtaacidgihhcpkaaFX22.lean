import Derived.Test.YtaacidgihhcpkaaFX20
import Derived.Test.YtaacidgihhcpkaaFX03
import Derived.Test.YtaacidgihhcpkaaFX17
import Derived.Test.YtaacidgihhcpkaaFX21
/-
  JournalForged's walk.
-/
namespace Go.Proofs.Ytaacidgihhcpkaa
open Go.RowKit Go.Maps Pl
set_option linter.unusedVariables false
set_option linter.unusedSimpArgs false
set_option maxRecDepth 100000

/-- What is forged: so many pieces. -/
def fg (g n : Nat) (ds : List Int) (k : Nat) : List Int := (List.range k).flatMap fun i => jsec ⟨i, 3, g, n, ds⟩
theorem fg_succ (g n : Nat) (ds : List Int) (k : Nat) : fg g n ds (k + 1) = fg g n ds k ++ jsec ⟨k, 3, g, n, ds⟩ := by simp [fg, List.range_succ]
theorem fg_len (g n : Nat) {ds : List Int} (h : ds.length ≤ 240) : ∀ k, (fg g n ds k).length = 256 * k
  | 0 => rfl
  | k + 1 => by rw [fg_succ, List.length_append, fg_len g n h k, jsec_len h]; omega
theorem fg_by (g n : Nat) {ds : List Int} (h : By ds) : ∀ k, By (fg g n ds k)
  | 0 => by_of_memB (by simp [fg])
  | k + 1 => by rw [fg_succ]; exact (fg_by g n h k).appendB (jsec_by h)
/-- A wiped disk. -/
def ws : DS := (wps (DS.new 60) 48).fl
theorem ws_c : ws.c = false := by unfold ws; rw [fl_c, wps_c]; rfl
theorem ws_L : ws.L.length = 60 := by unfold ws; rw [fl_L, wps_L]; simp [DS.new]
theorem ws_V (i : Nat) : ws.V i = [] := fl_V0 (by rw [wps_c]; rfl) i
theorem ws_has {i : Nat} (h : i < 60) : ws.has i = zz := by
  unfold ws
  rw [fl_has (by rw [wps_c]; rfl) (by rw [wps_L]; simp [DS.new]; exact h), wps_has _ rfl]
  split
  · rfl
  · exact new_has h
/-- So many records of these bytes, and noughts behind them. -/
structure Fo (S : Nat → Prop) (w wr : World) (d : Nat) (s : DS) (j : Nat) (Y : List Int) (k : Nat) (av : Value) : Prop where
  ro : Ro (fun k => ¬ S k ∧ k ≠ j) S w wr d s j 1 (List.replicate k Y) av
  zr : ∀ p, stt (List.replicate k Y) k ≤ p → p < 60 → s.has p = zz
theorem stt_rep (Y : List Int) : ∀ k r, r ≤ k → stt (List.replicate k Y) r = 2 + r * npc Y.length := by
  intro k r hr
  unfold stt
  rw [List.take_replicate, Nat.min_eq_left hr, List.map_replicate]
  clear hr
  congr 1
  induction r with
  | zero => simp
  | succ r ih => rw [List.replicate_succ, List.sum_cons, ih, Nat.add_mul]; omega
theorem fo_two {S : Nat → Prop} {w wr : World} {d : Nat} {s : DS} {j : Nat} {Y : List Int} {av : Value} (h : Fo S w wr d s j Y 4 av) (hY : 2 ≤ npc Y.length) (hY2 : npc Y.length ≤ 5) : Nop (s.has 2) 2 ∧ Nop (s.has 3) 2 := by
  have hc := h.ro.cu 0 (by simp)
  rw [show (List.replicate 4 Y).getD 0 [] = Y from rfl, stt_0] at hc
  refine ⟨?_, ?_⟩
  · have := hc 0 (by omega)
    rw [Nat.add_zero] at this
    rw [this]
    exact nop_gen (pcA_ok (by omega) (by omega) (by decide) (by decide)) (by show (1 : Nat) ≠ 2; decide)
  · have := hc 1 (by omega)
    rw [this]
    exact nop_gen (pcA_ok (by omega) (by omega) (by decide) (by decide)) (by show (1 : Nat) ≠ 2; decide)
/-- The record of the next generation. -/
theorem next_open {s : DS} (hc : s.c = false) {ds : List Int} (hd : ds.length ≤ 232) (h3 : Nop (s.has 3) 2) : jopen (jap s 2 1 2 ds 1).has 2 = [ds] := by
  have hn : npc ds.length = 1 := by rcases npc_cases ds.length with h | h <;> omega
  have hs : stt [ds] 1 = 3 := by simp [stt, hn]
  have := open_take (f := (jap s 2 1 2 ds 1).has) (g := 2) (rows := [ds]) (R := 1) (by simp) (fun r hr i hi => by
    have hr0 : r = 0 := by omega
    subst hr0
    have e : ([ds] : List (List Int)).getD 0 [] = ds := rfl
    rw [e, hn] at hi
    have hi0 : i = 0 := by omega
    subst hi0
    rw [stt_0, jap_has _ _ _ _ _ hc, if_pos (by omega), e]) (nop_bad fun _ => by rw [hs, jap_has _ _ _ _ _ hc, if_neg (by omega)]; exact h3) (by rw [hs]; decide) (by decide)
  rw [this]
  rfl

set_option maxHeartbeats 4000000 in
theorem journalForged_walk (v : Value) (zs : List Int) (ahead gen number : Int) (w : World) (hr : Rd .u8 w v zs) (hb : By zs) (hw1 : (Lit.int .i64 ahead).wf = true) (hw2 : (Lit.int .i64 gen).wf = true) (hw3 : (Lit.int .i64 number).wf = true) :
    Calls Try.prog 5 #[v, .int .i64 ahead, .int .i64 gen, .int .i64 number] w fun e w' => e = .returned (.bool true) ∧ Below w.heap.size w w' := by
  obtain ⟨va, vc, rfl, hv1, hv2, _⟩ := id hr
  obtain ⟨j0, hj, hy0, hy1, hy2⟩ := info_parts info_u8J
  have HR : Hid (Rd .u8 w (.slice va zs.length vc) zs) := hr
  have HBZ := hideP hb
  have hvc : vc ≤ 9223372036854775807 := by unfold maxLen at hv2; omega
  have HN := hideP (new_ok 60 w (by decide) (by decide))
  have HPA : Hid (∀ W, Calls Try.prog 12 #[.int .i64 ahead, .int .i64 256] W fun e w' => e = .returned (.int .i64 (pk ahead 256 : Int)) ∧ w' = W) := fun W => pickJ_any ahead 256 (by decide) (by decide) hw1 W
  have HPG : Hid (∀ W, Calls Try.prog 12 #[.int .i64 gen, .int .i64 4] W fun e w' => e = .returned (.int .i64 (pk gen 4 : Int)) ∧ w' = W) := fun W => pickJ_any gen 4 (by decide) (by decide) hw2 W
  have HPN : Hid (∀ W, Calls Try.prog 12 #[.int .i64 number, .int .i64 4] W fun e w' => e = .returned (.int .i64 (pk number 4 : Int)) ∧ w' = W) := fun W => pickJ_any number 4 (by decide) (by decide) hw3 W
  have hpa : pk ahead 256 < 256 := pk_lt ahead (by decide)
  have hpg : pk gen 4 < 4 := pk_lt gen (by decide)
  have hpn : pk number 4 < 4 := pk_lt number (by decide)
  obtain ⟨pa, hpae⟩ : ∃ x, Hid (pk ahead 256 = x) := ⟨_, rfl⟩
  obtain ⟨pg, hpge⟩ : ∃ x, Hid (pk gen 4 = x) := ⟨_, rfl⟩
  obtain ⟨pn, hpne⟩ : ∃ x, Hid (pk number 4 = x) := ⟨_, rfl⟩
  rw [hpae.out] at HPA hpa
  rw [hpge.out] at HPG hpg
  rw [hpne.out] at HPN hpn
  obtain ⟨G, hG⟩ : ∃ x, 1 + pg = x := ⟨_, rfl⟩
  obtain ⟨Nu, hNu⟩ : ∃ x, 1 + pn = x := ⟨_, rfl⟩
  have hGI : (1 : Int) + (pg : Int) = (G : Int) := by omega
  have hNI : (1 : Int) + (pn : Int) = (Nu : Int) := by omega
  have hG5 : G < 5 := by omega
  have hN5 : Nu < 5 := by omega
  obtain ⟨l, hl⟩ : ∃ l, Hid (zs.length = l) := ⟨_, rfl⟩
  rw [hl.out] at HR hv1 ⊢
  clear hr hb hv2 hw1 hw2 hw3 hpae hpge hpne hG hNu
  go_enter Try.func5, Try.ntmps5
  go_wp2_with fail
  refine HN.out.mono ?_
  rintro e w1 ⟨d, S, rfl, D1, b1, n1⟩
  have HWI := hideP (wipe_any w1 D1 (by simp [DS.new]) (fun i => by rw [new_V]; decide))
  have HB1 := hideP b1
  have HN1 := hideP n1
  clear HN D1 b1 n1
  unfold dp at HWI ⊢
  go_wp2_with fail
  refine HWI.out.mono ?_
  rintro e w2 ⟨rfl, S2, D2, t2, n2⟩
  have HD2 : Hid (Dk S2 w2 d ws) := D2
  have HB2 : Hid (Below w.heap.size w w2) := HB1.out.trans (t2.below HB1.out.size HN1.out)
  have HN2 : Hid (∀ k, S2 k → w.heap.size ≤ k) := fun k hk => by
    rcases n2 k hk with e | e
    · exact HN1.out k e
    · exact Nat.le_trans HB1.out.size e
  clear HWI D2 t2 n2 HB1 HN1
  by_cases h232 : (232 : Int) < (l : Int)
  · have HDL : Hid ((zs.take 232).length = 232) := by show _ = _; rw [List.length_take, hl.out]; omega
    have HDB : Hid (By (zs.take 232)) := HBZ.out.take 232
    have HRD : Hid (Rd .u8 w (.slice va 232 vc) (zs.take 232)) := rd_upto HR.out (by rw [hl.out]; omega)
    have HLE : Hid (232 ≤ 232) := by show _ ≤ _; omega
    obtain ⟨ds, hds⟩ : ∃ ds, Hid (zs.take 232 = ds) := ⟨_, rfl⟩
    rw [hds.out] at HDL HDB HRD
    go_wp2_with fail
    go_loopw [11, 12] (fun fv kv wr => ∃ (k : Nat) (v0 : Value), v0 = fv ∧ k ≤ 3 ∧ kv = .int .i64 (k : Int) ∧ Hid (Owns .u8 5 wr v0 (fg G Nu ds k)) ∧ Hid (Below w2.heap.size w2 wr) ∧ Hid (∀ j, v0.ownBlock = some j → w2.heap.size ≤ j)) (fun _ kv _ => 3 - (intOf kv).toNat)
    case atStart => exact ⟨0, _, rfl, by decide, rfl, owns_nil _ _ _, Below.refl _ _, (fun j hj => by cases hj)⟩
    case round =>
      obtain ⟨k, v0, rfl, hk, rfl, OF, BF, NF⟩ := hrel
      obtain ⟨fa, fc, hfe, _, hf2, _⟩ := id OF.out.rd
      subst hfe
      have hfc : fc ≤ 9223372036854775807 := by unfold maxLen at hf2; omega
      have HFL := hideP (fg_len G Nu (ds := ds) (by rw [HDL.out]; have := HLE.out; omega) k)
      obtain ⟨fl, hfl⟩ : ∃ x, Hid ((fg G Nu ds k).length = x) := ⟨_, rfl⟩
      rw [hfl.out] at OF NF HFL ⊢
      by_cases hlt : k < 3
      · have hkl : (k : Int) < 3 := by omega
        have HPC : Hid (∀ W, Below w.heap.size w W → Calls Try.prog 20 #[.int .i64 (G : Int), .int .i64 (Nu : Int), .int .i64 (k : Int), .int .i64 3, .slice va 232 vc] W fun e w' => ∃ v', e = .returned v' ∧ Owns .u8 5 w' v' (jsec ⟨k, 3, G, Nu, ds⟩) ∧ Below W.heap.size W w' ∧ ∀ k, v'.ownBlock = some k → W.heap.size ≤ k) := fun W hW => refPieceJ_any ⟨k, 3, G, Nu, ds⟩ _ W (HRD.out.below hW) HDB.out ⟨by show k < 256; omega, by show 3 < 256; omega, by show G < 4294967296; omega, by show Nu < 4294967296; omega, by show ds.length ≤ 240; rw [HDL.out]; have := HLE.out; omega⟩
        have HJL : Hid ((jsec ⟨k, 3, G, Nu, ds⟩).length = 256) := jsec_len (by show ds.length ≤ 240; rw [HDL.out]; have := HLE.out; omega)
        have HFS := hideP (fg_succ G Nu ds k)
        have HPW := hideP (HPC.out wr (HB2.out.trans (BF.out.mono HB2.out.size)))
        obtain ⟨js, hjs⟩ : ∃ js, Hid (jsec ⟨k, 3, G, Nu, ds⟩ = js) := ⟨_, rfl⟩
        rw [hjs.out] at HPW HJL HFS
        go_wp2_with fail
        refine (HPG.out _).mono ?_
        rintro e w4 ⟨rfl, rfl⟩
        go_wp2_with fail
        refine (HPN.out _).mono ?_
        rintro e w4 ⟨rfl, rfl⟩
        go_wp2_with fail
        refine HPW.out.mono ?_
        rintro e w5 ⟨v5, rfl, o5, b5, n5⟩
        have OF5 := hideP (OF.out.below b5)
        have BF5 : Hid (Below w2.heap.size w2 w5) := BF.out.trans (b5.mono BF.out.size)
        have R5 := hideP o5.rd
        clear o5 b5 n5 OF BF HPC HPW
        obtain ⟨F0, hF0⟩ : ∃ F0, Hid (fg G Nu ds k = F0) := ⟨_, rfl⟩
        rw [hF0.out] at OF5 HFS hfl
        go_wp2_with (at_builtin; refine wpList_many _ rfl (.tmp 52) (.tmp 61) 36 rfl 5 .u8 1 elem8 (.slice fa fl fc) F0 rfl OF5.out v5 js rfl R5.out (by rw [hfl.out, HJL.out]; have := HFL.out; omega) (by rw [hfl.out, HJL.out]; have := HFL.out; omega) ?_)
        intro v6 w6 o6 g6
        rw [← HFS.out] at o6
        have O6 := hideP o6
        have B6 := hideP (g6.onto BF5.out NF.out)
        have B6a := hideP B6.out.1
        have B6b := hideP B6.out.2
        clear o6 g6 B6 OF5 BF5 R5
        go_wp2_with fail
        go_roundw
        case rel => exact ⟨k + 1, _, rfl, by omega, by go_num, O6, B6a, B6b⟩
        case measure => simp [intOf]; omega
      · have hkl : ¬ (k : Int) < 3 := by omega
        have hk3 : k = 3 := by omega
        rw [hk3] at OF HFL hfl
        clear hk3
        have HFLN : Hid (fl = 768) := by show _ = _; rw [HFL.out]
        have HFB := hideP (fg_by G Nu HDB.out 3)
        obtain ⟨F, hF⟩ : ∃ F, Hid (fg G Nu ds 3 = F) := ⟨_, rfl⟩
        rw [hF.out] at OF HFB hfl
        have HD3 := hideP (HD2.out.below BF.out)
        have HB3 : Hid (Below w.heap.size w wr) := HB2.out.trans (BF.out.mono HB2.out.size)
        have HNJ := hideP (newJ_any 1 wr HD3.out (by rw [ws_L]; decide))
        obtain ⟨w3, rfl⟩ : ∃ w3, w3 = wr := ⟨_, rfl⟩
        unfold dp at HNJ
        go_wp2_with fail
        refine HNJ.out.mono ?_
        rintro e w4 (⟨_, rfl, jb4, b4, s4⟩ | ⟨h, _⟩)
        case inr => exact absurd h (by decide)
        have J4 : Hid (Jd S2 w w4 d ws w3.heap.size 1 0 2) := jd_new HD3.out HB3.out HN2.out (by rw [ws_L]; decide) (by decide) (by decide) jb4 b4
        have OF4 := hideP (OF.out.below b4)
        have AF4 : Hid (Ap S2 w w4 w3.heap.size (.slice fa fl fc)) := fun k hk => by
          have h1 := NF.out k hk
          have h2 := OF.out.lt k hk
          exact ⟨Nat.le_trans HB2.out.size h1, fun e => by have := HD2.out.slt k e; omega, by omega, Nat.lt_of_lt_of_le h2 b4.size⟩
        obtain ⟨j, hjj⟩ : ∃ j, Hid (w3.heap.size = j) := ⟨_, rfl⟩
        rw [hjj.out] at J4 AF4 ⊢
        clear HNJ jb4 b4 s4 HD3 HB3 OF BF NF HD2
        -- the records
        obtain ⟨Y, hY⟩ : ∃ Y, Hid (zr pa ++ F = Y) := ⟨zr pa ++ F, rfl⟩
        have HYL : Hid (Y.length = pa + 768) := by show _ = _; rw [← hY.out, List.length_append, zr_len, hfl.out, HFLN.out]
        have HYB : Hid (By Y) := by rw [← hY.out]; exact (zr_by pa).appendB HFB.out
        obtain ⟨M, hM⟩ : ∃ M, Hid (npc Y.length = M) := ⟨_, rfl⟩
        have hM5 : 2 ≤ M ∧ M ≤ 5 := by
          have h1 := HYL.out
          rcases npc_cases Y.length with h | h
          · omega
          · rw [hM.out] at h; omega
        go_wp2_with fail
        go_loopw [13, 16, 17] (fun av kv xv wr => ∃ (k : Nat) (S : Nat → Prop) (s : DS), k ≤ 4 ∧ kv = .int .i64 (k : Int) ∧ Hid (Fo S w wr d s j Y k av) ∧ Hid (Owns .u8 5 wr (.slice fa fl fc) F) ∧ Hid (Ap S w wr j (.slice fa fl fc)) ∧ Hid (∀ q, (Value.slice fa fl fc).ownBlock = some q → av.ownBlock ≠ some q)) (fun _ kv _ _ => 4 - (intOf kv).toNat)
        case atStart => exact ⟨0, S2, ws, by decide, rfl, ⟨⟨J4.out, owL_nil _ _, (fun k hk => by cases hk), (fun r hr => by simp at hr), (fun p => by rw [ws_V]; show 0 = if 2 ≤ p ∧ p < 2 then 1 else 0; rw [if_neg (by omega)]), ws_c, ws_L, (by simp)⟩, (fun p _ hp => ws_has hp)⟩, OF4, AF4, (fun q _ hq => by cases hq)⟩
        case round =>
          clear J4 OF4 AF4
          obtain ⟨k, S, s, hk, rfl, FO, OF, AF, SEP⟩ := hrel
          obtain ⟨aa, ac, rfl, hac1, hac2⟩ := FO.out.ro.al.len
          have hac9 : ac ≤ 9223372036854775807 := by unfold maxLen at hac2; omega
          have HRL : Hid ((List.replicate k Y).length = k) := List.length_replicate
          have HST : Hid (stt (List.replicate k Y) (List.replicate k Y).length = 2 + k * M) := by show _ = _; rw [HRL.out, stt_rep Y k k (Nat.le_refl _), hM.out]
          have JD := hideP FO.out.ro.jd
          rw [HST.out] at JD
          rw [HRL.out] at FO SEP JD hac1 ⊢
          by_cases hlt2 : k < 4
          · have hkl2 : (k : Int) < 4 := by omega
            have hkM : k * M ≤ 20 := Nat.le_trans (Nat.mul_le_mul (show k ≤ 4 by omega) hM5.2) (by decide)
            have hkM2 : k * M + M ≤ 20 := by
              have : (k + 1) * M ≤ 4 * 5 := Nat.mul_le_mul (by omega) hM5.2
              rw [Nat.add_mul] at this
              omega
            have hkk : k ≤ k * M := Nat.le_mul_of_pos_right k (by omega)
            go_wp2_with fail
            refine (HPA.out _).mono ?_
            rintro e w5 ⟨rfl, rfl⟩
            go_wp2_with (at_make; refine wpList_make_full _ rfl (.tmp 79) (.tmp 79) 36 rfl 0 5 j0 _ 1 Try.underlying36 hj hy0 hy1 .i64 .i64 _ _ pa rfl rfl rfl rfl (by rw [hy2]; omega) (by unfold maxLen; omega) (Nat.zero_le _) ?_)
            intro w6 ho6 hg6
            have b6 : Below w5.heap.size w5 w6 := (Below.refl _ _).grown hg6 (Nat.le_refl _) (fun k e => by cases e)
            obtain ⟨h, hh⟩ : ∃ h, Hid (w5.heap.size = h) := ⟨_, rfl⟩
            rw [hh.out] at ho6
            rw [toList_madeCells_one] at ho6
            have O6 : Hid (Owns .u8 5 w6 (.slice (some ⟨h, 0, none⟩) pa pa) (zr pa)) := by
              unfold Owns
              rw [zr_len]
              have : (zr pa).map (Value.int .u8) = List.replicate pa (.int .u8 0) := by rw [zr, List.map_replicate]
              rw [this]
              exact ho6
            have JD6 := hideP (JD.out.below b6)
            have OF6 := hideP (OF.out.below b6)
            have AL6 := hideP ((FO.out.ro.al.mono (E' := fun q => (¬ S q ∧ q ≠ j) ∧ q < h) (fun q hq hE => ⟨hE, by rw [← hh.out]; exact hq⟩)).below b6)
            have AA6 := hideP (FO.out.ro.aa.below b6)
            have AF6 := hideP (AF.out.below b6)
            have HSH : Hid (∀ q, S q → q < h) := fun q hq => by rw [← hh.out]; exact JD.out.dk.slt q hq
            have HJH : Hid (j < h) := by show _ < _; rw [← hh.out]; exact Bo.lt JD.out.jb
            have HWH : Hid (w.heap.size ≤ h) := by show _ ≤ _; rw [← hh.out]; exact JD.out.be.size
            have HAH : Hid (∀ q, (Value.slice aa k ac).ownBlock = some q → q < h) := fun q hq => by rw [← hh.out]; exact FO.out.ro.al.lt q hq
            have RF6 := hideP OF6.out.rd
            rw [hh.out]
            clear ho6 hg6 b6 OF
            go_wp2_with (at_builtin; refine wpList_many _ rfl (.tmp 81) (.tmp 82) 36 rfl 5 .u8 1 elem8 (.slice (some ⟨h, 0, none⟩) pa pa) (zr pa) rfl O6.out (.slice fa fl fc) F rfl RF6.out (by rw [zr_len, hfl.out, HFLN.out]; omega) (by rw [zr_len, hfl.out, HFLN.out]; omega) ?_)
            intro v7 w7 o7 g7
            rw [hY.out] at o7
            obtain ⟨oa, oc, hoe, ho1, ho2, _⟩ := id o7.rd
            subst hoe
            have O7 := hideP o7
            have N7 : Hid (∀ q, (Value.slice oa Y.length oc).ownBlock = some q → h ≤ q) := fun q hq => by
              rcases g7.fresh q hq with e | e
              · cases e; exact Nat.le_refl _
              · have h1 := JD6.out.dk; have := O6.out.lt h (by rfl); omega
            have t7 : Tch (fun q => q = h) w6 w7 := g7.tch.mono (fun q _ e => by cases e; rfl)
            have JD7 : Hid (Jd S w w7 d s j 1 k (2 + k * M)) := { JD6.out with dk := JD6.out.dk.tch t7 (fun q hq e => by have e2 : q = h := e; have := HSH.out q hq; omega), be := JD6.out.be.trans (t7.below JD6.out.be.size (fun q e => by have e2 : q = h := e; rw [e2]; exact HWH.out)), jb := Bo.tch JD6.out.jb t7 (by have := HJH.out; omega) }
            have OF7 := hideP (OF6.out.tch t7 (fun q hq e => by have e2 : q = h := e; have h1 := (AF.out q hq).2.2.2; have := hh.out; omega))
            have AL7 := hideP (AL6.out.tch t7 (fun q hq e => by have e2 : q = h := e; have := HAH.out q hq; omega) (fun q hE hq e => by have e2 : q = h := e; have := hE.2; omega))
            have AA7 : Hid (Ap S w w7 j (.slice aa k ac)) := AA6.out.app t7.size (fun q hq => .inl hq)
            have AF7 : Hid (Ap S w w7 j (.slice fa fl fc)) := AF6.out.app t7.size (fun q hq => .inl hq)
            have HYN : Hid (npc Y.length ≤ 50 - (2 + k * M)) := by show _ ≤ _; rw [hM.out]; omega
            have HA := hideP (appJ JD7.out (by omega) (.slice oa Y.length oc) Y O7.out.rd HYB.out (fun q hq _ e => by have := N7.out q hq; have := HSH.out q e; omega) FO.out.ro.vi.le)
            have hocc : oc ≤ 9223372036854775807 := by unfold maxLen at ho2; omega
            obtain ⟨yl, hyl⟩ : ∃ x, Hid (Y.length = x) := ⟨_, rfl⟩
            rw [hyl.out] at O7 N7 HA ho1 ⊢
            clear o7 g7 t7 O6 JD6 OF6 AL6 AA6 AF6 RF6 ho2
            go_wp2_with fail
            refine HA.out.mono ?_
            clear HA
            rintro e w8 (⟨_, rfl, S8, J8, t8, n8⟩ | ⟨h8, _⟩)
            case inr => exact absurd HYN.out h8
            rw [hM.out] at J8
            have JD8 := hideP J8
            have AA8 : Hid (Ap S8 w w8 j (.slice aa k ac)) := AA7.out.app t8.size n8
            have AF8 : Hid (Ap S8 w w8 j (.slice fa fl fc)) := AF7.out.app t8.size n8
            have OF8 : Hid (Owns .u8 5 w8 (.slice fa fl fc) F) := OF7.out.tch t8 AF7.out.not
            have AL8 : Hid (OwL (fun q => ¬ S8 q ∧ q ≠ j) w8 (.slice aa k ac) (List.replicate k Y)) := by
              refine ((AL7.out.mono (E' := fun q => (¬ S q ∧ q ≠ j) ∧ q < w7.heap.size) (fun q hq hE => ⟨hE.1, hq⟩)).tch t8 AA7.out.not (fun q hE _ e => ?_)).mono (fun q _ hE => ⟨fun e => ?_, hE.1.2⟩)
              · rcases e with e | e
                · exact hE.1.1 e
                · exact hE.1.2 e
              · rcases n8 q e with e | e
                · exact hE.1.1 e
                · have := hE.2; omega
            have HNO : Hid (∀ q, (Value.slice oa yl oc).ownBlock = some q → (¬ S8 q ∧ q ≠ j) ∧ q < w8.heap.size ∧ (Value.slice aa k ac).ownBlock ≠ some q) := fun q hq => by
              have h1 := N7.out q hq
              have h2 := O7.out.lt q hq
              refine ⟨⟨fun e => ?_, by have := HJH.out; omega⟩, Nat.lt_of_lt_of_le h2 t8.size, fun e => by have := HAH.out q e; omega⟩
              rcases n8 q e with e | e
              · have := HSH.out q e; omega
              · omega
            have R8 : Hid (Rd .u8 w8 (.slice oa yl oc) Y) := O7.out.rd.tch t8 (fun q hq e => by
              have h1 := N7.out q hq
              rcases e with e | e
              · have := HSH.out q e; omega
              · have := HJH.out; omega)
            have HRL2 : Hid ((List.replicate k Y).length + 1 ≤ 2000000000000) := by show _ ≤ _; rw [HRL.out]; omega
            have HUE : Hid (∀ q, (Value.slice oa yl oc).ownBlock = some q → Y ≠ [] → (¬ S8 q ∧ q ≠ j) ∧ q < w8.heap.size ∧ (Value.slice aa k ac).ownBlock ≠ some q) := fun q hq _ => HNO.out q hq
            clear J8 t8 n8 O7 N7 JD7 OF7 AL7 AA7 AF7
            go_wp2_with (at_builtin; refine wpList_pushL w8 rfl (.tmp 88) (.tmp 90) rfl (.slice aa k ac) (List.replicate k Y) rfl AL8.out (.slice oa yl oc) Y R8.out HUE.out rfl HRL2.out ?_)
            intro av2 w9 AL9 g9
            have JD9 := hideP (JD8.out.grew g9 AA8.out)
            have AA9 := hideP (Ap.grew JD8.out g9 AA8.out AL9.lt)
            have OF9 := hideP (OF8.out.tch g9.tch (fun q hq e => SEP.out q hq e))
            have AF9 : Hid (Ap S8 w w9 j (.slice fa fl fc)) := AF8.out.app g9.tch.size (fun q hq => .inl hq)
            have SEP9 : Hid (∀ q, (Value.slice fa fl fc).ownBlock = some q → av2.ownBlock ≠ some q) := fun q hq e => by
              rcases g9.fresh q e with e | e
              · exact SEP.out q hq e
              · have := (AF8.out q hq).2.2.2; omega
            have FO9 : Hid (Fo S8 w w9 d (jap s 1 (k + 1) (2 + k * M) Y M) j Y (k + 1) av2) := by
              have er : List.replicate k Y ++ [Y] = List.replicate (k + 1) Y := (List.replicate_succ' ..).symm
              have e1 : (List.replicate (k + 1) Y).length = k + 1 := List.length_replicate
              have e2 : stt (List.replicate (k + 1) Y) (k + 1) = 2 + k * M + M := by rw [stt_rep Y _ _ (Nat.le_refl _), hM.out, Nat.add_mul]; omega
              have ea : stt (List.replicate k Y) k = 2 + k * M := by rw [stt_rep Y _ _ (Nat.le_refl _), hM.out]
              refine ⟨⟨by rw [e1, e2]; exact JD9.out, by rw [← er]; exact AL9, AA9.out, ?_, ?_, by rw [jap_c]; exact FO.out.ro.c0, by rw [jap_L]; exact FO.out.ro.l6, ?_⟩, fun p hp hp2 => ?_⟩
              · have := cur_app (ys := Y) FO.out.ro.c0 FO.out.ro.cu
                rw [HRL.out, ea, hM.out, er] at this
                exact this
              · rw [e1, e2]
                have := FO.out.ro.vi
                rw [HRL.out, ea] at this
                exact this.app FO.out.ro.c0 (by omega) _ _ _ _
              · intro y hy
                rw [(List.mem_replicate.1 hy).2]
                exact HYB.out
              · rw [e2] at hp
                rw [jap_has _ _ _ _ _ FO.out.ro.c0, if_neg (by omega)]
                exact FO.out.zr p (by rw [ea]; omega) hp2
            clear AL9 g9 JD8 AA8 AF8 OF8 AL8 HNO R8 HUE SEP
            go_wp2_with fail
            go_roundw
            case rel => exact ⟨k + 1, S8, _, by omega, by go_num, FO9, OF9, AF9, SEP9⟩
            case measure => simp [intOf]; omega
          · have hkl2 : ¬ (k : Int) < 4 := by omega
            have hk4 : k = 4 := by omega
            subst hk4
            have HTW := hideP (fo_two FO.out (by rw [hM.out]; omega) (by rw [hM.out]; omega))
            have hM20 : 4 * M ≤ 20 := by omega
            have HFL2 := hideP (flush_any wr JD.out.dk)
            have ea : stt (List.replicate 4 Y) 4 = 2 + 4 * M := by rw [stt_rep Y _ _ (Nat.le_refl _), hM.out]
            have hs60 : s.L.length = 60 := FO.out.ro.l6
            have HHS : Hid (∀ p, p < 60 → s.fl.has p = s.has p) := fun p hp => fl_has FO.out.ro.c0 (by rw [hs60]; exact hp)
            have HO1 : Hid (jopen s.fl.has 1 = List.replicate 4 Y) := by
              refine rows_open_all (s := s.fl) (fun r hr i hi => ?_) (by rw [HRL.out, ea]; omega) (by decide) (fun h => ?_)
              · have m1 := stt_succ hr
                have m2 := stt_mono (rows := List.replicate 4 Y) (r := r + 1) (q := (List.replicate 4 Y).length) (by omega) (Nat.le_refl _)
                rw [HRL.out, ea] at m2
                rw [HHS.out _ (by omega)]
                exact FO.out.ro.cu r hr i hi
              · rw [HRL.out, ea] at h ⊢
                rw [HHS.out _ (by omega), FO.out.zr _ (by rw [ea]; exact Nat.le_refl _) (by omega)]
                exact nop_z 1
            have HO2 : Hid (jopen s.fl.has 2 = []) := by
              have := open_take (f := s.fl.has) (g := 2) (rows := []) (R := 0) (by simp) (fun r hr => by omega) (nop_bad fun _ => by rw [stt_0, HHS.out 2 (by decide)]; exact HTW.out.1) (by decide) (by decide)
              rw [this]
              rfl
            have HO3 : Hid (jopen (jap s.fl 2 1 2 ds 1).has 2 = [ds]) := next_open (by rw [fl_c]; exact FO.out.ro.c0) (by rw [HDL.out]; exact HLE.out) (by rw [HHS.out 3 (by decide)]; exact HTW.out.2)
            have HV0 : Hid (∀ i, (s.fl.V i).length < 274877906000) := fun i => by rw [fl_V0 FO.out.ro.c0]; decide
            obtain ⟨w5, rfl⟩ : ∃ w5, w5 = wr := ⟨_, rfl⟩
            unfold dp at HFL2
            clear ea hs60
            go_wp2_with fail
            refine HFL2.out.mono ?_
            rintro e w6 ⟨rfl, d6⟩
            obtain ⟨S6, J6, t6, n6⟩ := JD.out.dkTo2 d6 (fl_L s)
            have JD6 := hideP J6
            have AL6 := hideP (FO.out.ro.al.tch t6 (fun q hq e => (FO.out.ro.aa q hq).2.1 e) (fun q hE _ e => hE.1 e))
            have HOP := hideP (open_any 1 w6 J6.dk J6.l5 (by decide) (by decide))
            rw [HO1.out] at HOP
            clear J6 d6 t6 n6 HFL2
            unfold dp at HOP
            go_wp2_with fail
            refine HOP.out.mono ?_
            rintro e w7 ⟨lv, rfl, r7, b7⟩
            have JD7 := hideP (JD6.out.below b7)
            have HSA := hideP (sameL_any lv (.slice aa 4 ac) (List.replicate 4 Y) w7 r7 (AL6.out.below b7).rd)
            obtain ⟨la, lc, rfl, _⟩ := id r7
            obtain ⟨ln, hln⟩ : ∃ x, Hid ((List.replicate 4 Y).length = x) := ⟨_, rfl⟩
            rw [hln.out] at HSA ⊢
            clear r7 b7 HOP
            go_wp2_with fail
            refine HSA.out.mono ?_
            rintro e w8 ⟨rfl, b8⟩
            have JD8 := hideP (JD7.out.below b8)
            have HOP := hideP (open_any 2 w8 JD8.out.dk JD8.out.l5 (by decide) (by decide))
            rw [HO2.out] at HOP
            clear b8 HSA
            unfold dp at HOP
            go_wp2_with fail
            refine HOP.out.mono ?_
            rintro e w9 ⟨mv, rfl, r9, b9⟩
            obtain ⟨ma, mc, rfl, _, mc2, _⟩ := id r9
            have hmc : mc ≤ 9223372036854775807 := by unfold maxLen at mc2; omega
            have HML : Hid (([] : List (List Int)).length = 0) := rfl
            rw [HML.out]
            have JD9 := hideP (JD8.out.below b9)
            have HNJ := hideP (newJ_any 2 w9 JD9.out.dk JD9.out.l5)
            clear r9 b9 mc2 HOP HML
            unfold dp at HNJ
            go_wp2_with fail
            refine HNJ.out.mono ?_
            rintro e w10 (⟨_, rfl, jb10, b10, s10⟩ | ⟨h, _⟩)
            case inr => exact absurd h (by decide)
            have JD10 : Hid (Jd S6 w w10 d s.fl w9.heap.size 2 0 2) := JD9.out.again (by decide) (by decide) jb10 b10
            have hn1 : npc ds.length = 1 := by rcases npc_cases ds.length with h | h <;> (have := HDL.out; have := HLE.out; omega)
            have HA := hideP (appJ JD10.out (by decide) (.slice va 232 vc) ds (HRD.out.below JD10.out.be) HDB.out (JD10.out.arg HRD.out).2 HV0.out)
            have HNP : Hid (npc ds.length = 1) := hn1
            obtain ⟨j2, hj2⟩ : ∃ j2, Hid (w9.heap.size = j2) := ⟨_, rfl⟩
            rw [hj2.out] at JD10 HA ⊢
            clear HNJ jb10 b10 s10 hn1
            go_wp2_with fail
            refine HA.out.mono ?_
            rintro e w11 (⟨_, rfl, S11, J11, _⟩ | ⟨h11, _⟩)
            case inr => exact absurd (by rw [HNP.out]; decide) h11
            rw [HNP.out] at J11
            have JD11 : Hid (Jd S11 w w11 d (jap s.fl 2 1 2 ds 1) j2 2 1 3) := J11
            have HOP := hideP (open_any 2 w11 J11.dk J11.l5 (by decide) (by decide))
            have e3 : jopen (jap s.fl 2 (0 + 1) 2 ds 1).has 2 = [ds] := HO3.out
            rw [e3] at HOP
            clear HA J11 e3
            unfold dp at HOP
            go_wp2_with fail
            refine HOP.out.mono ?_
            rintro e w12 ⟨cv, rfl, r12, b12⟩
            obtain ⟨ca, cc, rfl, cc1, cc2, _⟩ := id r12
            obtain ⟨cb, co, u, rfl, cu, ru⟩ := r12.at_ (Below.refl _ _) (k := 0) (by simp)
            have eds : ([ds] : List (List Int)).getD 0 [] = ds := rfl
            rw [eds] at ru
            rw [Nat.add_zero] at cu
            obtain ⟨ua, uc, rfl, _, uc2, _⟩ := id ru
            have hcc : cc ≤ 9223372036854775807 := by unfold maxLen at cc2; omega
            have hcc1 : 1 ≤ cc := cc1
            have B12 : Hid (Below w.heap.size w w12) := JD11.out.be.trans (b12.mono JD11.out.be.size)
            have HSD := hideP (same_all _ _ _ w12 ru (HRD.out.below B12.out))
            have HL1 : Hid (([ds] : List (List Int)).length = 1) := rfl
            rw [HL1.out]
            rw [HDL.out] at cu HSD
            clear r12 b12 cc1 cc2 ru uc2 HOP HL1 eds
            go_wp2_with fail
            refine HSD.out.mono ?_
            rintro e w13 ⟨rfl, b13⟩
            have B13 : Hid (Below w.heap.size w w13) := B12.out.trans (b13.mono B12.out.size)
            have HLV := hideP (lives_anyJ w13)
            clear b13 HSD cu
            go_wp2_with fail
            refine HLV.out.mono ?_
            rintro e w14 ⟨rfl, b14⟩
            have B14 : Hid (Below w.heap.size w w14) := B13.out.trans (b14.mono B13.out.size)
            clear b14 HLV
            go_wp2_with fail
            go_ret
            exact ⟨rfl, B14.out⟩
  · have HDL : Hid ((zs).length = l) := by show _ = _; exact hl.out
    have HDB : Hid (By (zs)) := HBZ.out
    have HRD : Hid (Rd .u8 w (.slice va l vc) (zs)) := HR.out
    have HLE : Hid (l ≤ 232) := by show _ ≤ _; omega
    obtain ⟨ds, hds⟩ : ∃ ds, Hid (zs = ds) := ⟨_, rfl⟩
    rw [hds.out] at HDL HDB HRD
    go_wp2_with fail
    go_loopw [11, 12] (fun fv kv wr => ∃ (k : Nat) (v0 : Value), v0 = fv ∧ k ≤ 3 ∧ kv = .int .i64 (k : Int) ∧ Hid (Owns .u8 5 wr v0 (fg G Nu ds k)) ∧ Hid (Below w2.heap.size w2 wr) ∧ Hid (∀ j, v0.ownBlock = some j → w2.heap.size ≤ j)) (fun _ kv _ => 3 - (intOf kv).toNat)
    case atStart => exact ⟨0, _, rfl, by decide, rfl, owns_nil _ _ _, Below.refl _ _, (fun j hj => by cases hj)⟩
    case round =>
      obtain ⟨k, v0, rfl, hk, rfl, OF, BF, NF⟩ := hrel
      obtain ⟨fa, fc, hfe, _, hf2, _⟩ := id OF.out.rd
      subst hfe
      have hfc : fc ≤ 9223372036854775807 := by unfold maxLen at hf2; omega
      have HFL := hideP (fg_len G Nu (ds := ds) (by rw [HDL.out]; have := HLE.out; omega) k)
      obtain ⟨fl, hfl⟩ : ∃ x, Hid ((fg G Nu ds k).length = x) := ⟨_, rfl⟩
      rw [hfl.out] at OF NF HFL ⊢
      by_cases hlt : k < 3
      · have hkl : (k : Int) < 3 := by omega
        have HPC : Hid (∀ W, Below w.heap.size w W → Calls Try.prog 20 #[.int .i64 (G : Int), .int .i64 (Nu : Int), .int .i64 (k : Int), .int .i64 3, .slice va l vc] W fun e w' => ∃ v', e = .returned v' ∧ Owns .u8 5 w' v' (jsec ⟨k, 3, G, Nu, ds⟩) ∧ Below W.heap.size W w' ∧ ∀ k, v'.ownBlock = some k → W.heap.size ≤ k) := fun W hW => refPieceJ_any ⟨k, 3, G, Nu, ds⟩ _ W (HRD.out.below hW) HDB.out ⟨by show k < 256; omega, by show 3 < 256; omega, by show G < 4294967296; omega, by show Nu < 4294967296; omega, by show ds.length ≤ 240; rw [HDL.out]; have := HLE.out; omega⟩
        have HJL : Hid ((jsec ⟨k, 3, G, Nu, ds⟩).length = 256) := jsec_len (by show ds.length ≤ 240; rw [HDL.out]; have := HLE.out; omega)
        have HFS := hideP (fg_succ G Nu ds k)
        have HPW := hideP (HPC.out wr (HB2.out.trans (BF.out.mono HB2.out.size)))
        obtain ⟨js, hjs⟩ : ∃ js, Hid (jsec ⟨k, 3, G, Nu, ds⟩ = js) := ⟨_, rfl⟩
        rw [hjs.out] at HPW HJL HFS
        go_wp2_with fail
        refine (HPG.out _).mono ?_
        rintro e w4 ⟨rfl, rfl⟩
        go_wp2_with fail
        refine (HPN.out _).mono ?_
        rintro e w4 ⟨rfl, rfl⟩
        go_wp2_with fail
        refine HPW.out.mono ?_
        rintro e w5 ⟨v5, rfl, o5, b5, n5⟩
        have OF5 := hideP (OF.out.below b5)
        have BF5 : Hid (Below w2.heap.size w2 w5) := BF.out.trans (b5.mono BF.out.size)
        have R5 := hideP o5.rd
        clear o5 b5 n5 OF BF HPC HPW
        obtain ⟨F0, hF0⟩ : ∃ F0, Hid (fg G Nu ds k = F0) := ⟨_, rfl⟩
        rw [hF0.out] at OF5 HFS hfl
        go_wp2_with (at_builtin; refine wpList_many _ rfl (.tmp 52) (.tmp 61) 36 rfl 5 .u8 1 elem8 (.slice fa fl fc) F0 rfl OF5.out v5 js rfl R5.out (by rw [hfl.out, HJL.out]; have := HFL.out; omega) (by rw [hfl.out, HJL.out]; have := HFL.out; omega) ?_)
        intro v6 w6 o6 g6
        rw [← HFS.out] at o6
        have O6 := hideP o6
        have B6 := hideP (g6.onto BF5.out NF.out)
        have B6a := hideP B6.out.1
        have B6b := hideP B6.out.2
        clear o6 g6 B6 OF5 BF5 R5
        go_wp2_with fail
        go_roundw
        case rel => exact ⟨k + 1, _, rfl, by omega, by go_num, O6, B6a, B6b⟩
        case measure => simp [intOf]; omega
      · have hkl : ¬ (k : Int) < 3 := by omega
        have hk3 : k = 3 := by omega
        rw [hk3] at OF HFL hfl
        clear hk3
        have HFLN : Hid (fl = 768) := by show _ = _; rw [HFL.out]
        have HFB := hideP (fg_by G Nu HDB.out 3)
        obtain ⟨F, hF⟩ : ∃ F, Hid (fg G Nu ds 3 = F) := ⟨_, rfl⟩
        rw [hF.out] at OF HFB hfl
        have HD3 := hideP (HD2.out.below BF.out)
        have HB3 : Hid (Below w.heap.size w wr) := HB2.out.trans (BF.out.mono HB2.out.size)
        have HNJ := hideP (newJ_any 1 wr HD3.out (by rw [ws_L]; decide))
        obtain ⟨w3, rfl⟩ : ∃ w3, w3 = wr := ⟨_, rfl⟩
        unfold dp at HNJ
        go_wp2_with fail
        refine HNJ.out.mono ?_
        rintro e w4 (⟨_, rfl, jb4, b4, s4⟩ | ⟨h, _⟩)
        case inr => exact absurd h (by decide)
        have J4 : Hid (Jd S2 w w4 d ws w3.heap.size 1 0 2) := jd_new HD3.out HB3.out HN2.out (by rw [ws_L]; decide) (by decide) (by decide) jb4 b4
        have OF4 := hideP (OF.out.below b4)
        have AF4 : Hid (Ap S2 w w4 w3.heap.size (.slice fa fl fc)) := fun k hk => by
          have h1 := NF.out k hk
          have h2 := OF.out.lt k hk
          exact ⟨Nat.le_trans HB2.out.size h1, fun e => by have := HD2.out.slt k e; omega, by omega, Nat.lt_of_lt_of_le h2 b4.size⟩
        obtain ⟨j, hjj⟩ : ∃ j, Hid (w3.heap.size = j) := ⟨_, rfl⟩
        rw [hjj.out] at J4 AF4 ⊢
        clear HNJ jb4 b4 s4 HD3 HB3 OF BF NF HD2
        -- the records
        obtain ⟨Y, hY⟩ : ∃ Y, Hid (zr pa ++ F = Y) := ⟨zr pa ++ F, rfl⟩
        have HYL : Hid (Y.length = pa + 768) := by show _ = _; rw [← hY.out, List.length_append, zr_len, hfl.out, HFLN.out]
        have HYB : Hid (By Y) := by rw [← hY.out]; exact (zr_by pa).appendB HFB.out
        obtain ⟨M, hM⟩ : ∃ M, Hid (npc Y.length = M) := ⟨_, rfl⟩
        have hM5 : 2 ≤ M ∧ M ≤ 5 := by
          have h1 := HYL.out
          rcases npc_cases Y.length with h | h
          · omega
          · rw [hM.out] at h; omega
        go_wp2_with fail
        go_loopw [13, 16, 17] (fun av kv xv wr => ∃ (k : Nat) (S : Nat → Prop) (s : DS), k ≤ 4 ∧ kv = .int .i64 (k : Int) ∧ Hid (Fo S w wr d s j Y k av) ∧ Hid (Owns .u8 5 wr (.slice fa fl fc) F) ∧ Hid (Ap S w wr j (.slice fa fl fc)) ∧ Hid (∀ q, (Value.slice fa fl fc).ownBlock = some q → av.ownBlock ≠ some q)) (fun _ kv _ _ => 4 - (intOf kv).toNat)
        case atStart => exact ⟨0, S2, ws, by decide, rfl, ⟨⟨J4.out, owL_nil _ _, (fun k hk => by cases hk), (fun r hr => by simp at hr), (fun p => by rw [ws_V]; show 0 = if 2 ≤ p ∧ p < 2 then 1 else 0; rw [if_neg (by omega)]), ws_c, ws_L, (by simp)⟩, (fun p _ hp => ws_has hp)⟩, OF4, AF4, (fun q _ hq => by cases hq)⟩
        case round =>
          clear J4 OF4 AF4
          obtain ⟨k, S, s, hk, rfl, FO, OF, AF, SEP⟩ := hrel
          obtain ⟨aa, ac, rfl, hac1, hac2⟩ := FO.out.ro.al.len
          have hac9 : ac ≤ 9223372036854775807 := by unfold maxLen at hac2; omega
          have HRL : Hid ((List.replicate k Y).length = k) := List.length_replicate
          have HST : Hid (stt (List.replicate k Y) (List.replicate k Y).length = 2 + k * M) := by show _ = _; rw [HRL.out, stt_rep Y k k (Nat.le_refl _), hM.out]
          have JD := hideP FO.out.ro.jd
          rw [HST.out] at JD
          rw [HRL.out] at FO SEP JD hac1 ⊢
          by_cases hlt2 : k < 4
          · have hkl2 : (k : Int) < 4 := by omega
            have hkM : k * M ≤ 20 := Nat.le_trans (Nat.mul_le_mul (show k ≤ 4 by omega) hM5.2) (by decide)
            have hkM2 : k * M + M ≤ 20 := by
              have : (k + 1) * M ≤ 4 * 5 := Nat.mul_le_mul (by omega) hM5.2
              rw [Nat.add_mul] at this
              omega
            have hkk : k ≤ k * M := Nat.le_mul_of_pos_right k (by omega)
            go_wp2_with fail
            refine (HPA.out _).mono ?_
            rintro e w5 ⟨rfl, rfl⟩
            go_wp2_with (at_make; refine wpList_make_full _ rfl (.tmp 79) (.tmp 79) 36 rfl 0 5 j0 _ 1 Try.underlying36 hj hy0 hy1 .i64 .i64 _ _ pa rfl rfl rfl rfl (by rw [hy2]; omega) (by unfold maxLen; omega) (Nat.zero_le _) ?_)
            intro w6 ho6 hg6
            have b6 : Below w5.heap.size w5 w6 := (Below.refl _ _).grown hg6 (Nat.le_refl _) (fun k e => by cases e)
            obtain ⟨h, hh⟩ : ∃ h, Hid (w5.heap.size = h) := ⟨_, rfl⟩
            rw [hh.out] at ho6
            rw [toList_madeCells_one] at ho6
            have O6 : Hid (Owns .u8 5 w6 (.slice (some ⟨h, 0, none⟩) pa pa) (zr pa)) := by
              unfold Owns
              rw [zr_len]
              have : (zr pa).map (Value.int .u8) = List.replicate pa (.int .u8 0) := by rw [zr, List.map_replicate]
              rw [this]
              exact ho6
            have JD6 := hideP (JD.out.below b6)
            have OF6 := hideP (OF.out.below b6)
            have AL6 := hideP ((FO.out.ro.al.mono (E' := fun q => (¬ S q ∧ q ≠ j) ∧ q < h) (fun q hq hE => ⟨hE, by rw [← hh.out]; exact hq⟩)).below b6)
            have AA6 := hideP (FO.out.ro.aa.below b6)
            have AF6 := hideP (AF.out.below b6)
            have HSH : Hid (∀ q, S q → q < h) := fun q hq => by rw [← hh.out]; exact JD.out.dk.slt q hq
            have HJH : Hid (j < h) := by show _ < _; rw [← hh.out]; exact Bo.lt JD.out.jb
            have HWH : Hid (w.heap.size ≤ h) := by show _ ≤ _; rw [← hh.out]; exact JD.out.be.size
            have HAH : Hid (∀ q, (Value.slice aa k ac).ownBlock = some q → q < h) := fun q hq => by rw [← hh.out]; exact FO.out.ro.al.lt q hq
            have RF6 := hideP OF6.out.rd
            rw [hh.out]
            clear ho6 hg6 b6 OF
            go_wp2_with (at_builtin; refine wpList_many _ rfl (.tmp 81) (.tmp 82) 36 rfl 5 .u8 1 elem8 (.slice (some ⟨h, 0, none⟩) pa pa) (zr pa) rfl O6.out (.slice fa fl fc) F rfl RF6.out (by rw [zr_len, hfl.out, HFLN.out]; omega) (by rw [zr_len, hfl.out, HFLN.out]; omega) ?_)
            intro v7 w7 o7 g7
            rw [hY.out] at o7
            obtain ⟨oa, oc, hoe, ho1, ho2, _⟩ := id o7.rd
            subst hoe
            have O7 := hideP o7
            have N7 : Hid (∀ q, (Value.slice oa Y.length oc).ownBlock = some q → h ≤ q) := fun q hq => by
              rcases g7.fresh q hq with e | e
              · cases e; exact Nat.le_refl _
              · have h1 := JD6.out.dk; have := O6.out.lt h (by rfl); omega
            have t7 : Tch (fun q => q = h) w6 w7 := g7.tch.mono (fun q _ e => by cases e; rfl)
            have JD7 : Hid (Jd S w w7 d s j 1 k (2 + k * M)) := { JD6.out with dk := JD6.out.dk.tch t7 (fun q hq e => by have e2 : q = h := e; have := HSH.out q hq; omega), be := JD6.out.be.trans (t7.below JD6.out.be.size (fun q e => by have e2 : q = h := e; rw [e2]; exact HWH.out)), jb := Bo.tch JD6.out.jb t7 (by have := HJH.out; omega) }
            have OF7 := hideP (OF6.out.tch t7 (fun q hq e => by have e2 : q = h := e; have h1 := (AF.out q hq).2.2.2; have := hh.out; omega))
            have AL7 := hideP (AL6.out.tch t7 (fun q hq e => by have e2 : q = h := e; have := HAH.out q hq; omega) (fun q hE hq e => by have e2 : q = h := e; have := hE.2; omega))
            have AA7 : Hid (Ap S w w7 j (.slice aa k ac)) := AA6.out.app t7.size (fun q hq => .inl hq)
            have AF7 : Hid (Ap S w w7 j (.slice fa fl fc)) := AF6.out.app t7.size (fun q hq => .inl hq)
            have HYN : Hid (npc Y.length ≤ 50 - (2 + k * M)) := by show _ ≤ _; rw [hM.out]; omega
            have HA := hideP (appJ JD7.out (by omega) (.slice oa Y.length oc) Y O7.out.rd HYB.out (fun q hq _ e => by have := N7.out q hq; have := HSH.out q e; omega) FO.out.ro.vi.le)
            have hocc : oc ≤ 9223372036854775807 := by unfold maxLen at ho2; omega
            obtain ⟨yl, hyl⟩ : ∃ x, Hid (Y.length = x) := ⟨_, rfl⟩
            rw [hyl.out] at O7 N7 HA ho1 ⊢
            clear o7 g7 t7 O6 JD6 OF6 AL6 AA6 AF6 RF6 ho2
            go_wp2_with fail
            refine HA.out.mono ?_
            clear HA
            rintro e w8 (⟨_, rfl, S8, J8, t8, n8⟩ | ⟨h8, _⟩)
            case inr => exact absurd HYN.out h8
            rw [hM.out] at J8
            have JD8 := hideP J8
            have AA8 : Hid (Ap S8 w w8 j (.slice aa k ac)) := AA7.out.app t8.size n8
            have AF8 : Hid (Ap S8 w w8 j (.slice fa fl fc)) := AF7.out.app t8.size n8
            have OF8 : Hid (Owns .u8 5 w8 (.slice fa fl fc) F) := OF7.out.tch t8 AF7.out.not
            have AL8 : Hid (OwL (fun q => ¬ S8 q ∧ q ≠ j) w8 (.slice aa k ac) (List.replicate k Y)) := by
              refine ((AL7.out.mono (E' := fun q => (¬ S q ∧ q ≠ j) ∧ q < w7.heap.size) (fun q hq hE => ⟨hE.1, hq⟩)).tch t8 AA7.out.not (fun q hE _ e => ?_)).mono (fun q _ hE => ⟨fun e => ?_, hE.1.2⟩)
              · rcases e with e | e
                · exact hE.1.1 e
                · exact hE.1.2 e
              · rcases n8 q e with e | e
                · exact hE.1.1 e
                · have := hE.2; omega
            have HNO : Hid (∀ q, (Value.slice oa yl oc).ownBlock = some q → (¬ S8 q ∧ q ≠ j) ∧ q < w8.heap.size ∧ (Value.slice aa k ac).ownBlock ≠ some q) := fun q hq => by
              have h1 := N7.out q hq
              have h2 := O7.out.lt q hq
              refine ⟨⟨fun e => ?_, by have := HJH.out; omega⟩, Nat.lt_of_lt_of_le h2 t8.size, fun e => by have := HAH.out q e; omega⟩
              rcases n8 q e with e | e
              · have := HSH.out q e; omega
              · omega
            have R8 : Hid (Rd .u8 w8 (.slice oa yl oc) Y) := O7.out.rd.tch t8 (fun q hq e => by
              have h1 := N7.out q hq
              rcases e with e | e
              · have := HSH.out q e; omega
              · have := HJH.out; omega)
            have HRL2 : Hid ((List.replicate k Y).length + 1 ≤ 2000000000000) := by show _ ≤ _; rw [HRL.out]; omega
            have HUE : Hid (∀ q, (Value.slice oa yl oc).ownBlock = some q → Y ≠ [] → (¬ S8 q ∧ q ≠ j) ∧ q < w8.heap.size ∧ (Value.slice aa k ac).ownBlock ≠ some q) := fun q hq _ => HNO.out q hq
            clear J8 t8 n8 O7 N7 JD7 OF7 AL7 AA7 AF7
            go_wp2_with (at_builtin; refine wpList_pushL w8 rfl (.tmp 88) (.tmp 90) rfl (.slice aa k ac) (List.replicate k Y) rfl AL8.out (.slice oa yl oc) Y R8.out HUE.out rfl HRL2.out ?_)
            intro av2 w9 AL9 g9
            have JD9 := hideP (JD8.out.grew g9 AA8.out)
            have AA9 := hideP (Ap.grew JD8.out g9 AA8.out AL9.lt)
            have OF9 := hideP (OF8.out.tch g9.tch (fun q hq e => SEP.out q hq e))
            have AF9 : Hid (Ap S8 w w9 j (.slice fa fl fc)) := AF8.out.app g9.tch.size (fun q hq => .inl hq)
            have SEP9 : Hid (∀ q, (Value.slice fa fl fc).ownBlock = some q → av2.ownBlock ≠ some q) := fun q hq e => by
              rcases g9.fresh q e with e | e
              · exact SEP.out q hq e
              · have := (AF8.out q hq).2.2.2; omega
            have FO9 : Hid (Fo S8 w w9 d (jap s 1 (k + 1) (2 + k * M) Y M) j Y (k + 1) av2) := by
              have er : List.replicate k Y ++ [Y] = List.replicate (k + 1) Y := (List.replicate_succ' ..).symm
              have e1 : (List.replicate (k + 1) Y).length = k + 1 := List.length_replicate
              have e2 : stt (List.replicate (k + 1) Y) (k + 1) = 2 + k * M + M := by rw [stt_rep Y _ _ (Nat.le_refl _), hM.out, Nat.add_mul]; omega
              have ea : stt (List.replicate k Y) k = 2 + k * M := by rw [stt_rep Y _ _ (Nat.le_refl _), hM.out]
              refine ⟨⟨by rw [e1, e2]; exact JD9.out, by rw [← er]; exact AL9, AA9.out, ?_, ?_, by rw [jap_c]; exact FO.out.ro.c0, by rw [jap_L]; exact FO.out.ro.l6, ?_⟩, fun p hp hp2 => ?_⟩
              · have := cur_app (ys := Y) FO.out.ro.c0 FO.out.ro.cu
                rw [HRL.out, ea, hM.out, er] at this
                exact this
              · rw [e1, e2]
                have := FO.out.ro.vi
                rw [HRL.out, ea] at this
                exact this.app FO.out.ro.c0 (by omega) _ _ _ _
              · intro y hy
                rw [(List.mem_replicate.1 hy).2]
                exact HYB.out
              · rw [e2] at hp
                rw [jap_has _ _ _ _ _ FO.out.ro.c0, if_neg (by omega)]
                exact FO.out.zr p (by rw [ea]; omega) hp2
            clear AL9 g9 JD8 AA8 AF8 OF8 AL8 HNO R8 HUE SEP
            go_wp2_with fail
            go_roundw
            case rel => exact ⟨k + 1, S8, _, by omega, by go_num, FO9, OF9, AF9, SEP9⟩
            case measure => simp [intOf]; omega
          · have hkl2 : ¬ (k : Int) < 4 := by omega
            have hk4 : k = 4 := by omega
            subst hk4
            have HTW := hideP (fo_two FO.out (by rw [hM.out]; omega) (by rw [hM.out]; omega))
            have hM20 : 4 * M ≤ 20 := by omega
            have HFL2 := hideP (flush_any wr JD.out.dk)
            have ea : stt (List.replicate 4 Y) 4 = 2 + 4 * M := by rw [stt_rep Y _ _ (Nat.le_refl _), hM.out]
            have hs60 : s.L.length = 60 := FO.out.ro.l6
            have HHS : Hid (∀ p, p < 60 → s.fl.has p = s.has p) := fun p hp => fl_has FO.out.ro.c0 (by rw [hs60]; exact hp)
            have HO1 : Hid (jopen s.fl.has 1 = List.replicate 4 Y) := by
              refine rows_open_all (s := s.fl) (fun r hr i hi => ?_) (by rw [HRL.out, ea]; omega) (by decide) (fun h => ?_)
              · have m1 := stt_succ hr
                have m2 := stt_mono (rows := List.replicate 4 Y) (r := r + 1) (q := (List.replicate 4 Y).length) (by omega) (Nat.le_refl _)
                rw [HRL.out, ea] at m2
                rw [HHS.out _ (by omega)]
                exact FO.out.ro.cu r hr i hi
              · rw [HRL.out, ea] at h ⊢
                rw [HHS.out _ (by omega), FO.out.zr _ (by rw [ea]; exact Nat.le_refl _) (by omega)]
                exact nop_z 1
            have HO2 : Hid (jopen s.fl.has 2 = []) := by
              have := open_take (f := s.fl.has) (g := 2) (rows := []) (R := 0) (by simp) (fun r hr => by omega) (nop_bad fun _ => by rw [stt_0, HHS.out 2 (by decide)]; exact HTW.out.1) (by decide) (by decide)
              rw [this]
              rfl
            have HO3 : Hid (jopen (jap s.fl 2 1 2 ds 1).has 2 = [ds]) := next_open (by rw [fl_c]; exact FO.out.ro.c0) (by rw [HDL.out]; exact HLE.out) (by rw [HHS.out 3 (by decide)]; exact HTW.out.2)
            have HV0 : Hid (∀ i, (s.fl.V i).length < 274877906000) := fun i => by rw [fl_V0 FO.out.ro.c0]; decide
            obtain ⟨w5, rfl⟩ : ∃ w5, w5 = wr := ⟨_, rfl⟩
            unfold dp at HFL2
            clear ea hs60
            go_wp2_with fail
            refine HFL2.out.mono ?_
            rintro e w6 ⟨rfl, d6⟩
            obtain ⟨S6, J6, t6, n6⟩ := JD.out.dkTo2 d6 (fl_L s)
            have JD6 := hideP J6
            have AL6 := hideP (FO.out.ro.al.tch t6 (fun q hq e => (FO.out.ro.aa q hq).2.1 e) (fun q hE _ e => hE.1 e))
            have HOP := hideP (open_any 1 w6 J6.dk J6.l5 (by decide) (by decide))
            rw [HO1.out] at HOP
            clear J6 d6 t6 n6 HFL2
            unfold dp at HOP
            go_wp2_with fail
            refine HOP.out.mono ?_
            rintro e w7 ⟨lv, rfl, r7, b7⟩
            have JD7 := hideP (JD6.out.below b7)
            have HSA := hideP (sameL_any lv (.slice aa 4 ac) (List.replicate 4 Y) w7 r7 (AL6.out.below b7).rd)
            obtain ⟨la, lc, rfl, _⟩ := id r7
            obtain ⟨ln, hln⟩ : ∃ x, Hid ((List.replicate 4 Y).length = x) := ⟨_, rfl⟩
            rw [hln.out] at HSA ⊢
            clear r7 b7 HOP
            go_wp2_with fail
            refine HSA.out.mono ?_
            rintro e w8 ⟨rfl, b8⟩
            have JD8 := hideP (JD7.out.below b8)
            have HOP := hideP (open_any 2 w8 JD8.out.dk JD8.out.l5 (by decide) (by decide))
            rw [HO2.out] at HOP
            clear b8 HSA
            unfold dp at HOP
            go_wp2_with fail
            refine HOP.out.mono ?_
            rintro e w9 ⟨mv, rfl, r9, b9⟩
            obtain ⟨ma, mc, rfl, _, mc2, _⟩ := id r9
            have hmc : mc ≤ 9223372036854775807 := by unfold maxLen at mc2; omega
            have HML : Hid (([] : List (List Int)).length = 0) := rfl
            rw [HML.out]
            have JD9 := hideP (JD8.out.below b9)
            have HNJ := hideP (newJ_any 2 w9 JD9.out.dk JD9.out.l5)
            clear r9 b9 mc2 HOP HML
            unfold dp at HNJ
            go_wp2_with fail
            refine HNJ.out.mono ?_
            rintro e w10 (⟨_, rfl, jb10, b10, s10⟩ | ⟨h, _⟩)
            case inr => exact absurd h (by decide)
            have JD10 : Hid (Jd S6 w w10 d s.fl w9.heap.size 2 0 2) := JD9.out.again (by decide) (by decide) jb10 b10
            have hn1 : npc ds.length = 1 := by rcases npc_cases ds.length with h | h <;> (have := HDL.out; have := HLE.out; omega)
            have HA := hideP (appJ JD10.out (by decide) (.slice va l vc) ds (HRD.out.below JD10.out.be) HDB.out (JD10.out.arg HRD.out).2 HV0.out)
            have HNP : Hid (npc ds.length = 1) := hn1
            obtain ⟨j2, hj2⟩ : ∃ j2, Hid (w9.heap.size = j2) := ⟨_, rfl⟩
            rw [hj2.out] at JD10 HA ⊢
            clear HNJ jb10 b10 s10 hn1
            go_wp2_with fail
            refine HA.out.mono ?_
            rintro e w11 (⟨_, rfl, S11, J11, _⟩ | ⟨h11, _⟩)
            case inr => exact absurd (by rw [HNP.out]; decide) h11
            rw [HNP.out] at J11
            have JD11 : Hid (Jd S11 w w11 d (jap s.fl 2 1 2 ds 1) j2 2 1 3) := J11
            have HOP := hideP (open_any 2 w11 J11.dk J11.l5 (by decide) (by decide))
            have e3 : jopen (jap s.fl 2 (0 + 1) 2 ds 1).has 2 = [ds] := HO3.out
            rw [e3] at HOP
            clear HA J11 e3
            unfold dp at HOP
            go_wp2_with fail
            refine HOP.out.mono ?_
            rintro e w12 ⟨cv, rfl, r12, b12⟩
            obtain ⟨ca, cc, rfl, cc1, cc2, _⟩ := id r12
            obtain ⟨cb, co, u, rfl, cu, ru⟩ := r12.at_ (Below.refl _ _) (k := 0) (by simp)
            have eds : ([ds] : List (List Int)).getD 0 [] = ds := rfl
            rw [eds] at ru
            rw [Nat.add_zero] at cu
            obtain ⟨ua, uc, rfl, _, uc2, _⟩ := id ru
            have hcc : cc ≤ 9223372036854775807 := by unfold maxLen at cc2; omega
            have hcc1 : 1 ≤ cc := cc1
            have B12 : Hid (Below w.heap.size w w12) := JD11.out.be.trans (b12.mono JD11.out.be.size)
            have HSD := hideP (same_all _ _ _ w12 ru (HRD.out.below B12.out))
            have HL1 : Hid (([ds] : List (List Int)).length = 1) := rfl
            rw [HL1.out]
            rw [HDL.out] at cu HSD
            clear r12 b12 cc1 cc2 ru uc2 HOP HL1 eds
            go_wp2_with fail
            refine HSD.out.mono ?_
            rintro e w13 ⟨rfl, b13⟩
            have B13 : Hid (Below w.heap.size w w13) := B12.out.trans (b13.mono B12.out.size)
            have HLV := hideP (lives_anyJ w13)
            clear b13 HSD cu
            go_wp2_with fail
            refine HLV.out.mono ?_
            rintro e w14 ⟨rfl, b14⟩
            have B14 : Hid (Below w.heap.size w w14) := B13.out.trans (b14.mono B13.out.size)
            clear b14 HLV
            go_wp2_with fail
            go_ret
            exact ⟨rfl, B14.out⟩
end Go.Proofs.Ytaacidgihhcpkaa
