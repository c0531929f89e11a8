import Derived.Test.YtokkippjbagmkaaGreatGMFd
import Derived.Deep.MidRow
import Derived.Laws.ResultCell
set_option maxRecDepth 100000
/-
  The best match at a place, by the chain.
-/
namespace Go.Proofs.YtokkippjbagmkaaGreat
open Go.RowKit Pl
set_option linter.unusedVariables false

theorem results_cellM {fn : Func} {p : Tmp} {ty : TypeId} (h : fn.results = #[.cell p ty]) (tmps : Array Value) (P : Program) (w : World) :
    (results fn tmps).run P w = ((asAddr (tmps.getD p undef)).run P w).andThen fun a w₁ => (loadVar ty a).run P w₁ := by
  simp only [results, h]
  simp [Sem.run_bind, Result.andThen]

theorem results_atM {fn : Func} {p : Tmp} {ty : TypeId} (h : fn.results = #[.cell p ty]) (tmps : Array Value) (P : Program) (w : World) (b : Nat) (v : Value) (ha : tmps.getD p undef = .pointer (some ⟨b, 0, none⟩))
    (hl : (loadVar ty ⟨b, 0, none⟩).run P w = .ok v w) : (results fn tmps).run P w = .ok v w := by
  rw [results_cellM h, ha]
  simp [asAddr, Result.andThen, hl]

/-- A variable of two numbers at block B. -/
def TwoM (w : World) (B : Nat) (x y : Int) : Prop := w.heap[B]? = some (.cells #[.int .i64 x, .int .i64 y] 103 (0, 0))

theorem info_found : (Tryz.prog.info? 103).map (·.size) = some 2 := by kernel_rfl

theorem TwoM.load {w : World} {B : Nat} {x y : Int} (h : TwoM w B x y) : (loadVar 103 ⟨B, 0, none⟩).run Tryz.prog w = .ok (.agg #[.int .i64 x, .int .i64 y]) w :=
  run_loadVar_mid (P := Tryz.prog) w B 0 103 [.int .i64 x, .int .i64 y] _ (fun j v hv => by
    rw [Nat.zero_add, cell_of_row w B j _ _ (0, 0) h]
    simpa using hv) Tryz.underlying103 rfl info_found
theorem TwoM.c0 {w : World} {B : Nat} {x y : Int} (h : TwoM w B x y) : w.cell? ⟨B, 0, none⟩ = some (.int .i64 x) := by rw [cell_of_row w B 0 _ _ (0, 0) h]; rfl
theorem TwoM.c1 {w : World} {B : Nat} {x y : Int} (h : TwoM w B x y) : w.cell? ⟨B, 1, none⟩ = some (.int .i64 y) := by rw [cell_of_row w B 1 _ _ (0, 0) h]; rfl
theorem TwoM.fz {w : World} {B : Nat} {x y : Int} (h : TwoM w B x y) (i : Nat) : w.frozen? ⟨B, i, none⟩ = false := frozen_of_row w B i _ _ h
theorem TwoM.lt {w : World} {B : Nat} {x y : Int} (h : TwoM w B x y) : B < w.heap.size := (Array.getElem?_eq_some_iff.1 h).1
theorem TwoM.tch {S : Nat → Prop} {w w' : World} {B : Nat} {x y : Int} (h : TwoM w B x y) (ht : Tch S w w') (hn : ¬ S B) : TwoM w' B x y := by unfold TwoM; rw [ht.block B h.lt hn]; exact h
theorem TwoM.below {w w' : World} {B : Nat} {x y : Int} (h : TwoM w B x y) (hb : Below w.heap.size w w') : TwoM w' B x y := h.tch (S := fun _ => False) (Tch.of_below hb) (fun e => e)
theorem two_new (w : World) (x y : Int) : TwoM (w.alloc (.cells #[.int .i64 x, .int .i64 y] 103)) w.heap.size x y := heap_alloc_new w _
theorem TwoM.set {w : World} {B : Nat} {x y : Int} (h : TwoM w B x y) (u v : Int) : TwoM ((w.setCell ⟨B, 0, none⟩ (.int .i64 u)).setCell ⟨B, 1, none⟩ (.int .i64 v)) B u v := by
  unfold TwoM
  have h1 := heap_setCell_same w B 0 _ _ (.int .i64 u) h
  rw [heap_setCell_same _ B 1 _ _ (.int .i64 v) h1]
  rfl

/-- What is known of a finder whose places are linked up to some place. -/
def Fnd (w : World) (F G n b o c : Nat) (win : Int) (ds : List Int) (at_ : Nat) : Prop :=
  ∃ (k : Nat) (h : Nat → Int) (ad : List Int), k ≤ at_ ∧ Fd w F G n (.slice (some ⟨b, o, none⟩) n c) win k h ad ∧ Lk ds k h ad ∧ ad.length = n

theorem best_short (ds : List Int) (win i : Nat) (h : ml ds i < 4) : best ds win i = (0, 0) := by
  unfold best
  have := bst_skip ds i (d := 0) (e := min win i) (Nat.zero_le _) (fun t _ _ => .inl (by have := rn_le ds i (i - t) (ml ds i); omega))
  rw [this]
  rfl

set_option maxRecDepth 100000 in
set_option maxHeartbeats 2000000 in
theorem best_few (F G n b o c at_ : Nat) (win : Int) (W : Nat) (ds : List Int) (w : World) (H : Fnd w F G n b o c win ds at_) (D : Dt w b o n ds) (hn : n ≤ 65536) (ha : at_ ≤ n) (hm : n - at_ < 4) :
    Calls Tryz.prog 78 #[.pointer (some ⟨F, 0, none⟩), .int .i64 at_] w fun e w' => e = .returned (.agg #[.int .i64 ((best ds W at_).1 : Int), .int .i64 ((best ds W at_).2 : Int)]) ∧ Fnd w' F G n b o c win ds at_ ∧ Tch (fun j => j = F ∨ j = G) w w' := by
  have e : best ds W at_ = (0, 0) := best_short ds W at_ (by unfold ml; have := D.1; omega)
  rw [e]
  obtain ⟨k, h, ad, hk, hF, hL, hA⟩ := H
  have HF : Hid (Fd w F G n (.slice (some ⟨b, o, none⟩) n c) win k h ad) := hF
  have HL : Hid (Lk ds k h ad) := hL
  have HA : Hid (ad.length = n) := hA
  have c0 := hF.c0
  have hFl : F < w.heap.size := hF.lt
  have hmI : (n : Int) - (at_ : Int) < 4 := by omega
  have hmI2 : 0 ≤ (n : Int) - (at_ : Int) := by omega
  clear hF hL hA D e hm
  go_enter Tryz.func78, Tryz.ntmps78
  go_wp2_with fail
  go_step3
  go_wp2_with fail
  rw [Exit.noGoto_ret]
  refine bodyPost_ret (v := .agg #[.int .i64 0, .int .i64 0]) ?_ rfl ⟨rfl, ?_, ?_⟩
  · refine results_atM (p := 4) (ty := 103) rfl _ _ _ w.heap.size _ rfl ?_
    exact ((two_new w 0 0).below ((Below.refl _ _).alloc (Nat.le_refl _) _)).load
  · exact ⟨k, h, ad, hk, HF.out.below (((Below.refl _ _).alloc (Nat.le_refl _) _).alloc (by simp) _), HL.out, HA.out⟩
  · exact ((Tch.refl _ w).alloc _).alloc _

theorem best_round {ds : List Int} {W i P bl bd : Nat} (hL : P < i) (hw : i - P ≤ W) (hb : bst ds i (min W (i - (P + 1))) = (bl, bd)) :
    bst ds i (min W (i - pv ds (sl ds i) P)) = if 4 ≤ rn ds i P (ml ds i) ∧ bl < rn ds i P (ml ds i) then (rn ds i P (ml ds i), i - P) else (bl, bd) := by
  rw [best_link ds W i P hL hw]
  have e : i - P = (i - (P + 1)) + 1 := by omega
  have e2 : min W (i - (P + 1)) = i - (P + 1) := by omega
  rw [e2] at hb
  rw [e]
  simp only [bst, hb]
  rw [show i - (i - (P + 1) + 1) = P by omega]

theorem best_full {ds : List Int} {W i L bl bd : Nat} (hb : bst ds i (min W (i - L)) = (bl, bd)) (hm : bl = ml ds i) : best ds W i = (bl, bd) := by
  unfold best
  rw [← hb]
  refine bst_skip ds i (by omega) (fun t _ _ => .inr ?_)
  rw [hb]
  show _ ≤ bl
  rw [hm]
  exact rn_le _ _ _ _

theorem best_far {ds : List Int} {W i P bl bd : Nat} (hb : bst ds i (min W (i - (P + 1))) = (bl, bd)) (hP : P < i) (hw : W < i - P) : best ds W i = (bl, bd) := by
  unfold best
  rw [← hb, show min W i = min W (i - (P + 1)) by omega]

theorem rn_most {ds : List Int} {i P m bl : Nat} (h : ds.getD (P + bl) 0 ≠ ds.getD (i + bl) 0) : rn ds i P m ≤ bl := by
  rcases Nat.lt_or_ge bl (rn ds i P m) with e | e
  · exact absurd (rn_eq ds i P m bl e).symm h
  · exact e

theorem bst_dist (ds : List Int) (i : Nat) : ∀ d, (bst ds i d).2 ≤ d
  | 0 => Nat.le_refl _
  | d + 1 => by
    simp only [bst]
    split
    · exact Nat.le_refl _
    · have := bst_dist ds i d; omega

set_option maxRecDepth 100000 in
set_option maxHeartbeats 4000000 in
theorem best_many (F G n b o c at_ : Nat) (win : Int) (W : Nat) (ds : List Int) (w : World) (H : Fnd w F G n b o c win ds at_) (D : Dt w b o n ds) (hbF : b ≠ F ∧ b ≠ G) (hn : n ≤ 65536) (hc : n ≤ c) (hc2 : c ≤ 9223372036854775807) (ha : at_ + 4 ≤ n) (hw0 : win = W) (hw1 : 1 ≤ W) (hw2 : W ≤ 65536) :
    Calls Tryz.prog 78 #[.pointer (some ⟨F, 0, none⟩), .int .i64 at_] w fun e w' => e = .returned (.agg #[.int .i64 ((best ds W at_).1 : Int), .int .i64 ((best ds W at_).2 : Int)]) ∧ Fnd w' F G n b o c win ds at_ ∧ Tch (fun j => j = F ∨ j = G) w w' := by
  subst hw0
  obtain ⟨k, h, ad, hk, hF, hL, hA⟩ := H
  have HF : Hid (Fd w F G n (.slice (some ⟨b, o, none⟩) n c) W k h ad) := hF
  have HL : Hid (Lk ds k h ad) := hL
  have HA : Hid (ad.length = n) := hA
  have HD : Hid (Dt w b o n ds) := D
  have HBF : Hid (b ≠ F ∧ b ≠ G) := hbF
  have c0 := hF.c0
  have hFl : F < w.heap.size := hF.lt
  have HGl : Hid (G < w.heap.size) := hF.ltG
  obtain ⟨M, hM⟩ : ∃ M, Hid (ml ds at_ = M) := ⟨_, rfl⟩
  have hM1 : M ≤ 259 ∧ M ≤ n - at_ ∧ 4 ≤ M ∧ (M = 259 ∨ M = n - at_) := by rw [← hM.out]; unfold ml; have := D.1; omega
  obtain ⟨R, hR⟩ : ∃ R, Hid (best ds W at_ = R) := ⟨_, rfl⟩
  rw [hR.out]
  obtain ⟨s, hs⟩ : ∃ s, Hid (sl ds at_ = s) := ⟨_, rfl⟩
  have hs4 : s < 4096 := by rw [← hs.out]; exact sl_lt _ _
  obtain ⟨B4, hB4⟩ : ∃ B4, Hid (w.heap.size = B4) := ⟨_, rfl⟩
  have HW2 : Hid (∀ W2 : World, W2 = ((w.alloc (.cells #[.int .i64 0, .int .i64 0] 103)).alloc (.cells #[.int .i64 0, .int .i64 0] 103)) → TwoM W2 B4 0 0 ∧ TwoM W2 (B4 + 1) 0 0 ∧ Below w.heap.size w W2) := by
    intro W2 e
    subst e
    refine ⟨?_, ?_, ((Below.refl _ _).alloc (Nat.le_refl _) _).alloc (by simp) _⟩
    · rw [← hB4.out]; exact (two_new w 0 0).below ((Below.refl _ _).alloc (Nat.le_refl _) _)
    · have := two_new (w.alloc (.cells #[.int .i64 0, .int .i64 0] 103)) 0 0
      rw [World.size_alloc, hB4.out] at this
      exact this
  clear hF hL hA D hbF
  have hminI : ((259 : Int) ≤ (n : Int) - (at_ : Int) ∧ M = 259) ∨ ((n : Int) - (at_ : Int) < 259 ∧ M = n - at_) := by omega
  have HMI : Hid (((259 : Int) ≤ (n : Int) - (at_ : Int) ∧ M = 259) ∨ ((n : Int) - (at_ : Int) < 259 ∧ M = n - at_)) := hminI
  go_enter Tryz.func78, Tryz.ntmps78
  go_wp2_with fail
  go_step3
  obtain ⟨m0, hm0⟩ : ∃ m0, Hid (m0 = (M : Int) ∧ (m0 = 259 ∨ m0 = (n : Int) - (at_ : Int))) := by
    rcases hminI with ⟨_, e⟩ | ⟨_, e⟩
    · exact ⟨259, by rw [e]; rfl, .inl rfl⟩
    · exact ⟨(n : Int) - (at_ : Int), by rw [e]; omega, .inr rfl⟩
  rcases hminI with ⟨hm1, hm2⟩ | ⟨hm1, hm2⟩
  all_goals
    have hm3 := hM1.2.2.1
    clear hm2
    go_wp2_with fail
    first | rw [show (259 : Int) = (M : Int) by have := HMI.out; omega] | rw [show (n : Int) - (at_ : Int) = (M : Int) by have := HMI.out; omega]
    obtain ⟨w2, hw2⟩ : ∃ w2, Hid ((w.alloc (.cells #[.int .i64 0, .int .i64 0] 103)).alloc (.cells #[.int .i64 0, .int .i64 0] 103) = w2) := ⟨_, rfl⟩
    rw [hw2.out, hB4.out]
    obtain ⟨t4, t6, b12⟩ := HW2.out w2 hw2.out.symm
    have HLK : Hid (Calls Tryz.prog 110 #[.pointer (some ⟨F, 0, none⟩), .int .i64 at_] w2 fun e w' => (∃ v, e = .returned v) ∧ (∃ h ad, Fd w' F G n (.slice (some ⟨b, o, none⟩) n c) W at_ h ad ∧ Lk ds at_ h ad ∧ ad.length = n) ∧ Tch (fun j => j = F ∨ j = G) w2 w') :=
      link_any F G n b o c at_ k W h ad ds w2 (HF.out.below b12) (HD.out.below b12) HL.out HBF.out HA.out hn hc hc2 ha hk
    have T2 : Hid (Tch (fun j => j = F ∨ j = G) w w2) := Tch.of_below b12
    have hFB : F < B4 := by rw [← hB4.out]; exact hFl
    have hGB : G < B4 := by rw [← hB4.out]; exact HGl.out
    have U4 : Hid (TwoM w2 B4 0 0) := t4
    have U6 : Hid (TwoM w2 (B4 + 1) 0 0) := t6
    clear t4 t6 b12 HW2 HF HL HA c0 hFl HGl
    refine HLK.out.mono ?_
    clear HLK
    rintro e w3 ⟨⟨v3, rfl⟩, ⟨h3, ad3, hF3, hL3, hA3⟩, ht3⟩
    have F3 : Hid (Fd w3 F G n (.slice (some ⟨b, o, none⟩) n c) W at_ h3 ad3) := hF3
    have HL : Hid (Lk ds at_ h3 ad3) := hL3
    have HA : Hid (ad3.length = n) := hA3
    have T3 : Hid (Tch (fun j => j = F ∨ j = G) w w3) := T2.out.trans ht3 (fun _ _ e => e)
    have X4 : Hid (TwoM w3 B4 0 0) := U4.out.tch ht3 (fun e => by omega)
    have X6 : Hid (TwoM w3 (B4 + 1) 0 0) := U6.out.tch ht3 (fun e => by omega)
    have D3 : Hid (Dt w3 b o n ds) := HD.out.tch T3.out (fun e => by have := HBF.out; rcases e with e | e <;> simp [e] at this)
    have eh := hF3.ch s hs4
    obtain ⟨L0, hL0⟩ : ∃ L0, Hid (pv ds s at_ = L0) := ⟨_, rfl⟩
    have hL0b : L0 ≤ at_ := by rw [← hL0.out]; exact pv_le _ _ _
    rw [hL3.1 s hs4, hL0.out] at eh
    have HSL : Hid (∀ q, Calls Tryz.prog 111 #[.pointer (some ⟨F, 0, none⟩), .int .i64 at_] (w3.drewN q) fun e w' => e = .returned (.int .i64 (s : Int)) ∧ ∃ m, w' = (w3.drewN q).drewN m) := fun q => by
      have := slot_any F G n b o c at_ W at_ h3 ad3 ds (w3.drewN q) (F3.out.below (Below.of_drewN _ _ _)) (D3.out.below (Below.of_drewN _ _ _)) hn hc hc2 ha
      rw [hs.out] at this
      exact this
    have hsI : (s : Int) < 4096 := by omega
    clear hF3 hL3 hA3 ht3 T2 U4 U6
    go_wp2_with fail
    go_step3
    go_wp2_with fail
    go_quiet (first | (go_at_call 111; exact Calls.quiet_of (HSL.out _)))
    go_wp2_with fail
    clear HSL eh
    go_loopw [7] (fun l wr => ∃ (L bl bd : Nat), l = .int .i64 L ∧ L ≤ at_ ∧ bl ≤ M ∧ bd ≤ at_ ∧ Hid (0 < L → sl ds (L - 1) = s) ∧ Hid (bst ds at_ (min W (at_ - L)) = (bl, bd)) ∧ Hid (Fd wr F G n (.slice (some ⟨b, o, none⟩) n c) W at_ h3 ad3) ∧ Hid (TwoM wr B4 0 0) ∧ Hid (TwoM wr (B4 + 1) bl bd) ∧ Hid (Tch (fun j => j = F ∨ j = G) w wr)) (fun l _ => (intOf l).toNat)
    case atStart =>
      refine ⟨L0, 0, 0, rfl, hL0b, Nat.zero_le _, Nat.zero_le _, ?_, ?_, ?_, ?_, ?_, ?_⟩
      · show 0 < L0 → _
        rw [← hL0.out]; exact pv_sl ds s at_
      · show _ = _
        rw [← hL0.out, ← hs.out]; exact best_start ds W at_
      · exact F3.out.below (Below.of_drewN _ _ _)
      · exact X4.out.below (Below.of_drewN _ _ _)
      · exact X6.out.below (Below.of_drewN _ _ _)
      · exact T3.out.trans (Tch.of_below (S := fun j => j = F ∨ j = G) (Below.of_drewN _ _ _)) (fun _ _ e => e)
    case round =>
      clear F3 T3 X4 X6 D3
      obtain ⟨L, bl, bd, rfl, hLa, hbl, hbd, HSL, HBS, FF, Y4, Y6, TT⟩ := hrel
      have y0 := Y6.out.c0
      have y1 := Y6.out.c1
      have z0 := Y4.out.c0
      have z1 := Y4.out.c1
      have zf0 := Y4.out.fz 0
      have zf1 := Y4.out.fz 1
      by_cases hL : L = 0
      · subst hL
        have HR : Hid (R = (bl, bd)) := by
          show R = _
          rw [← hR.out, ← HBS.out]
          unfold best
          rw [Nat.sub_zero]
        have T9 : Hid (Tch (fun j => j = F ∨ j = G) w ((wr.setCell ⟨B4, 0, none⟩ (.int .i64 bl)).setCell ⟨B4, 1, none⟩ (.int .i64 bd))) := Tch.setCell (Tch.setCell TT.out (p := ⟨B4, 0, none⟩) (fun e => by have := hB4.out; simp only at e; omega) _) (p := ⟨B4, 1, none⟩) (fun e => by have := hB4.out; simp only at e; omega) _
        have F9 : Hid (Fd ((wr.setCell ⟨B4, 0, none⟩ (.int .i64 bl)).setCell ⟨B4, 1, none⟩ (.int .i64 bd)) F G n (.slice (some ⟨b, o, none⟩) n c) W at_ h3 ad3) := FF.out.tch (S := fun k => k = B4) ((tch1 wr B4 0 _).trans (tch1 _ B4 1 _) (fun _ _ e => e)) (fun e => by omega) (fun e => by omega)
        have Y9 : Hid (TwoM ((wr.setCell ⟨B4, 0, none⟩ (.int .i64 bl)).setCell ⟨B4, 1, none⟩ (.int .i64 bd)) B4 bl bd) := Y4.out.set bl bd
        go_wp2_with fail
        try rw [Exit.noGoto_ret]
        refine bodyPost_ret (v := .agg #[.int .i64 (bl : Int), .int .i64 (bd : Int)]) ?_ rfl ⟨by rw [HR.out], ⟨at_, h3, ad3, Nat.le_refl _, F9.out, HL.out, HA.out⟩, T9.out⟩
        exact results_atM (p := 4) (ty := 103) rfl _ _ _ B4 _ rfl Y9.out.load
      · obtain ⟨P, rfl⟩ : ∃ P, L = P + 1 := ⟨L - 1, by omega⟩
        have hPa : P < at_ := by omega
        have hLI : (0 : Int) < ((P + 1 : Nat) : Int) := by omega
        have f0 := FF.out.c0
        have f1 := FF.out.c1
        have f4 := FF.out.c4
        clear hL
        by_cases hfull : bl = M
        · have g1 : ((bl : Int) == (M : Int)) = true := by rw [beq_iff_eq]; omega
          have HR : Hid (R = (bl, bd)) := by show R = _; rw [← hR.out]; exact best_full HBS.out (by rw [hM.out]; exact hfull)
          clear hfull
          have T9 : Hid (Tch (fun j => j = F ∨ j = G) w ((wr.setCell ⟨B4, 0, none⟩ (.int .i64 bl)).setCell ⟨B4, 1, none⟩ (.int .i64 bd))) := Tch.setCell (Tch.setCell TT.out (p := ⟨B4, 0, none⟩) (fun e => by have := hB4.out; simp only at e; omega) _) (p := ⟨B4, 1, none⟩) (fun e => by have := hB4.out; simp only at e; omega) _
          have F9 : Hid (Fd ((wr.setCell ⟨B4, 0, none⟩ (.int .i64 bl)).setCell ⟨B4, 1, none⟩ (.int .i64 bd)) F G n (.slice (some ⟨b, o, none⟩) n c) W at_ h3 ad3) := FF.out.tch (S := fun k => k = B4) ((tch1 wr B4 0 _).trans (tch1 _ B4 1 _) (fun _ _ e => e)) (fun e => by omega) (fun e => by omega)
          have Y9 : Hid (TwoM ((wr.setCell ⟨B4, 0, none⟩ (.int .i64 bl)).setCell ⟨B4, 1, none⟩ (.int .i64 bd)) B4 bl bd) := Y4.out.set bl bd
          go_wp2_with fail
          try rw [Exit.noGoto_ret]
          refine bodyPost_ret (v := .agg #[.int .i64 (bl : Int), .int .i64 (bd : Int)]) ?_ rfl ⟨by rw [HR.out], ⟨at_, h3, ad3, Nat.le_refl _, F9.out, HL.out, HA.out⟩, T9.out⟩
          exact results_atM (p := 4) (ty := 103) rfl _ _ _ B4 _ rfl Y9.out.load
        · have g1 : ((bl : Int) == (M : Int)) = false := by rw [beq_eq_false_iff_ne]; omega
          by_cases hfar : W < at_ - P
          · have g2 : decide ((W : Int) < (at_ : Int) - (P : Int)) = true := by rw [decide_eq_true_eq]; omega
            have hfarI : (W : Int) < (at_ : Int) - (P : Int) := by omega
            have HR : Hid (R = (bl, bd)) := by show R = _; rw [← hR.out]; exact best_far HBS.out hPa hfar
            clear hfull
            have T9 : Hid (Tch (fun j => j = F ∨ j = G) w ((wr.setCell ⟨B4, 0, none⟩ (.int .i64 bl)).setCell ⟨B4, 1, none⟩ (.int .i64 bd))) := Tch.setCell (Tch.setCell TT.out (p := ⟨B4, 0, none⟩) (fun e => by have := hB4.out; simp only at e; omega) _) (p := ⟨B4, 1, none⟩) (fun e => by have := hB4.out; simp only at e; omega) _
            have F9 : Hid (Fd ((wr.setCell ⟨B4, 0, none⟩ (.int .i64 bl)).setCell ⟨B4, 1, none⟩ (.int .i64 bd)) F G n (.slice (some ⟨b, o, none⟩) n c) W at_ h3 ad3) := FF.out.tch (S := fun k => k = B4) ((tch1 wr B4 0 _).trans (tch1 _ B4 1 _) (fun _ _ e => e)) (fun e => by omega) (fun e => by omega)
            have Y9 : Hid (TwoM ((wr.setCell ⟨B4, 0, none⟩ (.int .i64 bl)).setCell ⟨B4, 1, none⟩ (.int .i64 bd)) B4 bl bd) := Y4.out.set bl bd
            go_wp2_with fail
            try rw [Exit.noGoto_ret]
            refine bodyPost_ret (v := .agg #[.int .i64 (bl : Int), .int .i64 (bd : Int)]) ?_ rfl ⟨by rw [HR.out], ⟨at_, h3, ad3, Nat.le_refl _, F9.out, HL.out, HA.out⟩, T9.out⟩
            exact results_atM (p := 4) (ty := 103) rfl _ _ _ B4 _ rfl Y9.out.load
          · have g2 : decide ((W : Int) < (at_ : Int) - (P : Int)) = false := by rw [decide_eq_false_iff_not]; omega
            have hnear : (at_ : Int) - (P : Int) ≤ (W : Int) := by omega
            have hblM : bl < M := by omega
            obtain ⟨L2, hL2⟩ : ∃ L2, Hid (pv ds s P = L2) := ⟨_, rfl⟩
            have hL2b : L2 ≤ P := by rw [← hL2.out]; exact pv_le _ _ _
            have HS2 : Hid (0 < L2 → sl ds (L2 - 1) = s) := by show 0 < L2 → _; rw [← hL2.out]; exact pv_sl ds s P
            have HAD : Hid (ad3.getD P 0 = (L2 : Int)) := by
              show _ = _
              rw [HL.out.2 P hPa, ← hL2.out]
              have := HSL.out (by omega)
              rw [Nat.add_sub_cancel] at this
              rw [this]
            have HBR : Hid (bst ds at_ (min W (at_ - L2)) = if 4 ≤ rn ds at_ P M ∧ bl < rn ds at_ P M then (rn ds at_ P M, at_ - P) else (bl, bd)) := by
              show _ = _
              have := best_round hPa (by omega) HBS.out
              rw [hs.out, hL2.out, hM.out] at this
              exact this
            have hD := HD.out.tch TT.out (fun e => by have := HBF.out; rcases e with e | e <;> simp [e] at this)
            obtain ⟨x, hx⟩ : ∃ x, Hid (ds.getD (P + bl) 0 = x) := ⟨_, rfl⟩
            obtain ⟨y, hy⟩ : ∃ y, Hid (ds.getD (at_ + bl) 0 = y) := ⟨_, rfl⟩
            have cx : wr.cell? ⟨b, o + (P + bl), none⟩ = some (.int .u8 x) := by rw [hD.2.2 (P + bl) (by omega), hx.out]
            have cy : wr.cell? ⟨b, o + (at_ + bl), none⟩ = some (.int .u8 y) := by rw [hD.2.2 (at_ + bl) (by omega), hy.out]
            have HD3 : Hid (Dt wr b o n ds) := hD
            have hxI : (P : Int) + (bl : Int) < (n : Int) := by omega
            have hyI : (at_ : Int) + (bl : Int) < (n : Int) := by omega
            clear hfull hfar hD HSL
            by_cases hxy : x = y
            · have g3 : (x != y) = false := by simp [hxy]
              clear hxy
              go_wp2_with fail
              go_quiet (fail)
              obtain ⟨w4, hw4⟩ : ∃ w4, Hid (wr.drewN nq = w4) := ⟨_, rfl⟩
              rw [hw4.out]
              have b4 : Below wr.heap.size wr w4 := by rw [← hw4.out]; exact Below.of_drewN _ _ _
              obtain ⟨r, hr⟩ : ∃ r, Hid (rn ds at_ P M = r) := ⟨_, rfl⟩
              have hrM : r ≤ M := by rw [← hr.out]; exact rn_le _ _ _ _
              rw [hr.out] at HBR
              have HSM : Hid (Calls Tryz.prog 112 #[.pointer (some ⟨F, 0, none⟩), .int .i64 (P : Int), .int .i64 (at_ : Int), .int .i64 (M : Int)] w4 fun e w' => e = .returned (.int .i64 (r : Int)) ∧ Below w4.heap.size w4 w') := by
                have := fsame_any F G n b o c P at_ M W at_ h3 ad3 ds w4 (FF.out.below b4) (HD3.out.below b4) hn (by omega) (by omega)
                rw [rn_comm, hr.out] at this
                exact this
              have F4 : Hid (Fd w4 F G n (.slice (some ⟨b, o, none⟩) n c) W at_ h3 ad3) := FF.out.below b4
              have V4 : Hid (TwoM w4 B4 0 0) := Y4.out.below b4
              have V6 : Hid (TwoM w4 (B4 + 1) bl bd) := Y6.out.below b4
              have TW : Hid (Tch (fun j => j = F ∨ j = G) w w4) := TT.out.trans (Tch.of_below (S := fun j => j = F ∨ j = G) b4) (fun _ _ e => e)
              clear b4 FF Y4 Y6 TT y0 y1 z0 z1 zf0 zf1 f0 f1 f4 cx cy HD3
              go_wp2_with fail
              refine HSM.out.mono ?_
              clear HSM
              rintro e w5 ⟨rfl, b5⟩
              have F5 : Hid (Fd w5 F G n (.slice (some ⟨b, o, none⟩) n c) W at_ h3 ad3) := F4.out.below b5
              have V4' : Hid (TwoM w5 B4 0 0) := V4.out.below b5
              have V6' : Hid (TwoM w5 (B4 + 1) bl bd) := V6.out.below b5
              have TW5 : Hid (Tch (fun j => j = F ∨ j = G) w w5) := TW.out.trans (Tch.of_below (S := fun j => j = F ∨ j = G) b5) (fun _ _ e => e)
              have y0 := V6'.out.c0
              have y1 := V6'.out.c1
              have yf0 := V6'.out.fz 0
              have yf1 := V6'.out.fz 1
              have f4 := F5.out.c4
              obtain ⟨_, _, e3, _, _, _, q3, _⟩ := F5.out.own.shape (by rw [HA.out]; omega)
              rw [HA.out] at e3
              cases e3
              have ck := q3 P (by rw [HA.out]; omega)
              rw [HAD.out] at ck
              have hPn : (P : Int) < (n : Int) := by omega
              have hne1 : ¬ F = B4 + 1 := by omega
              have hne2 : ¬ G = B4 + 1 := by omega
              clear b5 F4 V4 V6 TW q3
              by_cases hbet : 4 ≤ r ∧ bl < r
              · have g4 : decide ((4 : Int) ≤ (r : Int)) = true := by rw [decide_eq_true_eq]; omega
                have g5 : decide ((bl : Int) < (r : Int)) = true := by rw [decide_eq_true_eq]; omega
                have hd1 : (at_ : Int) - (P : Int) = ((at_ - P : Nat) : Int) := by omega
                obtain ⟨w6, hw6⟩ : ∃ w6, Hid ((w5.setCell ⟨B4 + 1, 0, none⟩ (.int .i64 (r : Int))).setCell ⟨B4 + 1, 1, none⟩ (.int .i64 ((at_ - P : Nat) : Int)) = w6) := ⟨_, rfl⟩
                have V66 : Hid (TwoM w6 (B4 + 1) r (at_ - P : Nat)) := by show TwoM _ _ _ _; rw [← hw6.out]; exact V6'.out.set r (at_ - P : Nat)
                have t6 : Tch (fun k => k = B4 + 1) w5 w6 := by rw [← hw6.out]; exact (tch1 w5 (B4 + 1) 0 _).trans (tch1 _ (B4 + 1) 1 _) (fun _ _ e => e)
                have F6 : Hid (Fd w6 F G n (.slice (some ⟨b, o, none⟩) n c) W at_ h3 ad3) := F5.out.tch t6 (fun e => by omega) (fun e => by omega)
                have V46 : Hid (TwoM w6 B4 0 0) := V4'.out.tch t6 (fun e => by omega)
                have TW6 : Hid (Tch (fun j => j = F ∨ j = G) w w6) := by
                  have h1 : Tch (fun j => j = F ∨ j = G) w w6 := ⟨t6.os.trans TW5.out.os, t6.tape.trans TW5.out.tape, t6.output.trans TW5.out.output, Nat.le_trans TW5.out.size t6.size, fun j hj hn => by
                    rw [t6.block j (Nat.lt_of_lt_of_le hj TW5.out.size) (by have := hB4.out; omega)]; exact TW5.out.block j hj hn⟩
                  exact h1
                have HBN : Hid (bst ds at_ (min W (at_ - L2)) = (r, at_ - P)) := by show _ = _; rw [HBR.out, if_pos hbet]
                have hr4 : (4 : Int) ≤ (r : Int) := by omega
                have hrb : (bl : Int) < (r : Int) := by omega
                clear t6 hbet HBR g4 g5
                go_wp2_with fail
                rw [hw6.out]
                go_roundw
                case rel => exact ⟨L2, r, at_ - P, rfl, by omega, hrM, by omega, HS2, HBN, F6, V46, V66, TW6⟩
                case measure => simp [intOf]; omega
              · have HBN : Hid (bst ds at_ (min W (at_ - L2)) = (bl, bd)) := by show _ = _; rw [HBR.out, if_neg hbet]
                by_cases hr4 : 4 ≤ r
                · have hr4I : (4 : Int) ≤ (r : Int) := by omega
                  have hrb : (r : Int) ≤ (bl : Int) := by omega
                  have g5 : decide ((bl : Int) < (r : Int)) = false := by rw [decide_eq_false_iff_not]; omega
                  clear hbet HBR hr4
                  go_wp2_with fail
                  go_roundw
                  case rel => exact ⟨L2, bl, bd, rfl, by omega, hbl, hbd, HS2, HBN, F5, V4', V6', TW5⟩
                  case measure => simp [intOf]; omega
                · have g4 : decide ((4 : Int) ≤ (r : Int)) = false := by rw [decide_eq_false_iff_not]; omega
                  clear hbet HBR hr4
                  go_wp2_with fail
                  go_roundw
                  case rel => exact ⟨L2, bl, bd, rfl, by omega, hbl, hbd, HS2, HBN, F5, V4', V6', TW5⟩
                  case measure => simp [intOf]; omega
            · have g3 : (x != y) = true := by simp [hxy]
              have HBN : Hid (bst ds at_ (min W (at_ - L2)) = (bl, bd)) := by
                show _ = _
                have h1 : rn ds at_ P M ≤ bl := rn_most (by rw [hx.out, hy.out]; exact hxy)
                rw [HBR.out, if_neg (by omega)]
              obtain ⟨_, _, e3, _, _, _, q3, _⟩ := FF.out.own.shape (by rw [HA.out]; omega)
              rw [HA.out] at e3
              cases e3
              have ck := q3 P (by rw [HA.out]; omega)
              rw [HAD.out] at ck
              have hPn : (P : Int) < (n : Int) := by omega
              clear q3 hxy HBR
              go_wp2_with fail
              go_quiet (fail)
              go_wp2_with fail
              go_roundw
              case rel => exact ⟨L2, bl, bd, rfl, by omega, hbl, hbd, HS2, HBN, FF.out.below (Below.of_drewN _ _ _), Y4.out.below (Below.of_drewN _ _ _), Y6.out.below (Below.of_drewN _ _ _), TT.out.trans (Tch.of_below (S := fun j => j = F ∨ j = G) (Below.of_drewN _ _ _)) (fun _ _ e => e)⟩
              case measure => simp [intOf]; omega
end Go.Proofs.YtokkippjbagmkaaGreat
