import Derived.Test.YtobenjkacpipeaaGreatPMFd
import Derived.Deep.MidRow
import Derived.Laws.ResultCell
import Derived.Test.YtobenjkacpipeaaGreatPMCut
set_option maxRecDepth 100000
set_option linter.unusedVariables false
set_option linter.unusedSimpArgs false
set_option maxHeartbeats 8000000
namespace Go.Proofs.YtobenjkacpipeaaGreat
open Go.RowKit Pl
theorem zhn9 {fn : Func} {p : Tmp} {ty : TypeId} (h : fn.results = #[.cell p ty]) (tmps : Array Value) (P : Program) (w : World) :
  (results fn tmps).run P w = ((asAddr (tmps.getD p undef)).run P w).andThen fun a w₁ => (loadVar ty a).run P w₁ := by
 simp only [results, h]
 simp [Sem.run_bind, Result.andThen]
theorem zbm9 {fn : Func} {p : Tmp} {ty : TypeId} (h : fn.results = #[.cell p ty]) (tmps : Array Value) (P : Program) (w : World) (b : Nat) (v : Value) (ha : tmps.getD p undef = .pointer (some ⟨b, 0, none⟩))
  (hl : (loadVar ty ⟨b, 0, none⟩).run P w = .ok v w) : (results fn tmps).run P w = .ok v w := by
 rw [zhn9 h, ha]
 simp [asAddr, Result.andThen, hl]
def TwoM (w : World) (B : Nat) (x y : Int) : Prop := w.heap[B]? = some (.cells #[.int .i64 x, .int .i64 y] 77 (0, 0))
theorem znp9 : (Tryz.prog.info? 77).map (·.size) = some 2 := by kernel_rfl
theorem TwoM.load {w : World} {B : Nat} {x y : Int} (h : TwoM w B x y) : (loadVar 77 ⟨B, 0, none⟩).run Tryz.prog w = .ok (.agg #[.int .i64 x, .int .i64 y]) w :=
 run_loadVar_mid (P := Tryz.prog) w B 0 77 [.int .i64 x, .int .i64 y] _ (fun j v hv => by
  rw [Nat.zero_add, cell_of_row w B j _ _ (0, 0) h]
  simpa using hv) Tryz.underlying77 rfl znp9
theorem TwoM.c0 {w : World} {B : Nat} {x y : Int} (h : TwoM w B x y) : w.cell? ⟨B, 0, none⟩ = some (.int .i64 x) := by rw [cell_of_row w B 0 _ _ (0, 0) h]; rfl
theorem TwoM.c1 {w : World} {B : Nat} {x y : Int} (h : TwoM w B x y) : w.cell? ⟨B, 1, none⟩ = some (.int .i64 y) := by rw [cell_of_row w B 1 _ _ (0, 0) h]; rfl
theorem TwoM.fz {w : World} {B : Nat} {x y : Int} (h : TwoM w B x y) (i : Nat) : w.frozen? ⟨B, i, none⟩ = false := frozen_of_row w B i _ _ h
theorem TwoM.lt {w : World} {B : Nat} {x y : Int} (h : TwoM w B x y) : B < w.heap.size := (Array.getElem?_eq_some_iff.1 h).1
theorem TwoM.tch {S : Nat -> Prop} {w w' : World} {B : Nat} {x y : Int} (h : TwoM w B x y) (ht : Tch S w w') (hn : ¬ S B) : TwoM w' B x y := by unfold TwoM; rw [ht.block B h.lt hn]; exact h
theorem TwoM.below {w w' : World} {B : Nat} {x y : Int} (h : TwoM w B x y) (hb : Below w.heap.size w w') : TwoM w' B x y := h.tch (S := fun _ => False) (Tch.of_below hb) (fun e => e)
theorem zes9 (w : World) (x y : Int) : TwoM (w.alloc (.cells #[.int .i64 x, .int .i64 y] 77)) w.heap.size x y := heap_alloc_new w _
theorem TwoM.set {w : World} {B : Nat} {x y : Int} (h : TwoM w B x y) (u v : Int) : TwoM ((w.setCell ⟨B, 0, none⟩ (.int .i64 u)).setCell ⟨B, 1, none⟩ (.int .i64 v)) B u v := by
 unfold TwoM
 have h1 := heap_setCell_same w B 0 _ _ (.int .i64 u) h
 rw [heap_setCell_same _ B 1 _ _ (.int .i64 v) h1]
 rfl
def Fnd (w : World) (F G n b o c : Nat) (win : Int) (ds : List Int) (at_ : Nat) : Prop :=
 ∃ (k : Nat) (h : Nat -> Int) (ad : List Int), k <= at_ /\ Fd w F G n (.slice (some ⟨b, o, none⟩) n c) win k h ad /\ Lk ds k h ad /\ ad.length = n
theorem zny9 (ds : List Int) (win i : Nat) (h : ml ds i < 4) : best ds win i = (0, 0) := by
 unfold best
 have := zhc9 ds i (d := 0) (e := min win i) (Nat.zero_le _) (fun t _ _ => .inl (by have := rn_le ds i (i - t) (ml ds i); omega))
 rw [this]
 rfl
set_option maxRecDepth 100000 in
theorem zwp9 (F G n b o c at_ : Nat) (win : Int) (W : Nat) (ds : List Int) (w : World) (H : Fnd w F G n b o c win ds at_) (D : Dt w b o n ds) (hn : n <= 65536) (ha : at_ <= n) (hm : n - at_ < 4) :
  Calls Tryz.prog 51 #[.pointer (some ⟨F, 0, none⟩), .int .i64 at_] w fun e w' => e = .returned (.agg #[.int .i64 ((best ds W at_).1 : Int), .int .i64 ((best ds W at_).2 : Int)]) /\ Fnd w' F G n b o c win ds at_ /\ Tch (fun j => j = F ∨ j = G) w w' := by
 have e : best ds W at_ = (0, 0) := zny9 ds W at_ (by unfold ml; have := D.1; omega)
 rw [e]
 obtain ⟨k, h, ad, hk, hF, hL, hA⟩ := H
 have HF : Hid (Fd w F G n (.slice (some ⟨b, o, none⟩) n c) win k h ad) := hF
 have HL : Hid (Lk ds k h ad) := hL
 have HA : Hid (ad.length = n) := hA
 have c0 := hF.c0
 have hFl : F < w.heap.size := hF.lt
 have hmI : (n : Int) - (at_ : Int) < 4 := by omega
 have hmI2 : 0 <= (n : Int) - (at_ : Int) := by omega
 clear hF hL hA D e hm
 go_enter Tryz.func51, Tryz.ntmps51
 go_wp2_with fail
 go_step3
 go_wp2_with fail
 rw [Exit.noGoto_ret]
 refine bodyPost_ret (v := .agg #[.int .i64 0, .int .i64 0]) ?_ rfl ⟨rfl, ?_, ?_⟩
 ·refine zbm9 (p := 4) (ty := 77) rfl _ _ _ w.heap.size _ rfl ?_
  exact ((zes9 w 0 0).below ((Below.refl _ _).alloc (Nat.le_refl _) _)).load
 ·exact ⟨k, h, ad, hk, HF.out.below (((Below.refl _ _).alloc (Nat.le_refl _) _).alloc (by simp) _), HL.out, HA.out⟩
 ·exact ((Tch.refl _ w).alloc _).alloc _
theorem zoe9 {ds : List Int} {W i P bl bd : Nat} (hL : P < i) (hw : i - P <= W) (hb : bst ds i (min W (i - (P + 1))) = (bl, bd)) :
  bst ds i (min W (i - pv ds (sl ds i) P)) = if 4 <= rn ds i P (ml ds i) /\ bl < rn ds i P (ml ds i) then (rn ds i P (ml ds i), i - P) else (bl, bd) := by
 rw [zrf9 ds W i P hL hw]
 have e : i - P = (i - (P + 1)) + 1 := by omega
 have e2 : min W (i - (P + 1)) = i - (P + 1) := by omega
 rw [e2] at hb
 rw [e]
 simp only [bst, hb]
 rw [show i - (i - (P + 1) + 1) = P by omega]
theorem zst9 {ds : List Int} {W i L bl bd : Nat} (hb : bst ds i (min W (i - L)) = (bl, bd)) (hm : bl = ml ds i) : best ds W i = (bl, bd) := by
 unfold best
 rw [<- hb]
 refine zhc9 ds i (by omega) (fun t _ _ => .inr ?_)
 rw [hb]
 show _ <= bl
 rw [hm]
 exact rn_le _ _ _ _
theorem zya9 {ds : List Int} {W i P bl bd : Nat} (hb : bst ds i (min W (i - (P + 1))) = (bl, bd)) (hP : P < i) (hw : W < i - P) : best ds W i = (bl, bd) := by
 unfold best
 rw [<- hb, show min W i = min W (i - (P + 1)) by omega]
theorem zyq9 {ds : List Int} {i P m bl : Nat} (h : ds.getD (P + bl) 0 ≠ ds.getD (i + bl) 0) : rn ds i P m <= bl := by
 rcases Nat.lt_or_ge bl (rn ds i P m) with e | e
 ·exact absurd (rn_eq ds i P m bl e).symm h
 ·exact e
theorem zqc9 (ds : List Int) (i : Nat) : ∀ d, (bst ds i d).2 <= d
 | 0 => Nat.le_refl _
 | d + 1 => by
  simp only [bst]
  split
  ·exact Nat.le_refl _
  ·have := zqc9 ds i d; omega
set_option maxRecDepth 100000 in
theorem zsf9 (F G n b o c at_ : Nat) (win : Int) (W : Nat) (ds : List Int) (w : World) (H : Fnd w F G n b o c win ds at_) (D : Dt w b o n ds) (hbF : b ≠ F /\ b ≠ G) (hn : n <= 65536) (hc : n <= c) (hc2 : c <= 9223372036854775807) (ha : at_ + 4 <= n) (hw0 : win = W) (hw1 : 1 <= W) (hw2 : W <= 65536) :
  Calls Tryz.prog 51 #[.pointer (some ⟨F, 0, none⟩), .int .i64 at_] w fun e w' => e = .returned (.agg #[.int .i64 ((best ds W at_).1 : Int), .int .i64 ((best ds W at_).2 : Int)]) /\ Fnd w' F G n b o c win ds at_ /\ Tch (fun j => j = F ∨ j = G) w w' := by
 subst hw0
 obtain ⟨k, h, ad, hk, hF, hL, hA⟩ := H
 have HF : Hid (Fd w F G n (.slice (some ⟨b, o, none⟩) n c) W k h ad) := hF
 have HL : Hid (Lk ds k h ad) := hL
 have HA : Hid (ad.length = n) := hA
 have HD : Hid (Dt w b o n ds) := D
 have HBF : Hid (b ≠ F /\ b ≠ G) := hbF
 have c0 := hF.c0
 have hFl : F < w.heap.size := hF.lt
 have HGl : Hid (G < w.heap.size) := hF.ltG
 obtain ⟨M, hM⟩ : ∃ M, Hid (ml ds at_ = M) := ⟨_, rfl⟩
 have hM1 : M <= 259 /\ M <= n - at_ /\ 4 <= M /\ (M = 259 ∨ M = n - at_) := by rw [<- hM.out]; unfold ml; have := D.1; omega
 obtain ⟨R, hR⟩ : ∃ R, Hid (best ds W at_ = R) := ⟨_, rfl⟩
 rw [hR.out]
 obtain ⟨s, hs⟩ : ∃ s, Hid (sl ds at_ = s) := ⟨_, rfl⟩
 have hs4 : s < 4096 := by rw [<- hs.out]; exact sl_lt _ _
 obtain ⟨B4, hB4⟩ : ∃ B4, Hid (w.heap.size = B4) := ⟨_, rfl⟩
 have HW2 : Hid (∀ W2 : World, W2 = ((w.alloc (.cells #[.int .i64 0, .int .i64 0] 77)).alloc (.cells #[.int .i64 0, .int .i64 0] 77)) -> TwoM W2 B4 0 0 /\ TwoM W2 (B4 + 1) 0 0 /\ Below w.heap.size w W2) := by
  intro W2 e
  subst e
  refine ⟨?_, ?_, ((Below.refl _ _).alloc (Nat.le_refl _) _).alloc (by simp) _⟩
  ·rw [<- hB4.out]; exact (zes9 w 0 0).below ((Below.refl _ _).alloc (Nat.le_refl _) _)
  ·have := zes9 (w.alloc (.cells #[.int .i64 0, .int .i64 0] 77)) 0 0
   rw [World.size_alloc, hB4.out] at this
   exact this
 clear hF hL hA D hbF
 have hminI : ((259 : Int) <= (n : Int) - (at_ : Int) /\ M = 259) ∨ ((n : Int) - (at_ : Int) < 259 /\ M = n - at_) := by omega
 have HMI : Hid (((259 : Int) <= (n : Int) - (at_ : Int) /\ M = 259) ∨ ((n : Int) - (at_ : Int) < 259 /\ M = n - at_)) := hminI
 go_enter Tryz.func51, Tryz.ntmps51
 go_wp2_with fail
 go_step3
 obtain ⟨m0, hm0⟩ : ∃ m0, Hid (m0 = (M : Int) /\ (m0 = 259 ∨ m0 = (n : Int) - (at_ : Int))) := by
  rcases hminI with ⟨_, e⟩ | ⟨_, e⟩
  ·exact ⟨259, by rw [e]; rfl, .inl rfl⟩
  ·exact ⟨(n : Int) - (at_ : Int), by rw [e]; omega, .inr rfl⟩
 rcases hminI with ⟨hm1, hm2⟩ | ⟨hm1, hm2⟩
 all_goals
  have hm3 := hM1.2.2.1
  clear hm2
  go_wp2_with fail
  first | rw [show (259 : Int) = (M : Int) by have := HMI.out; omega] | rw [show (n : Int) - (at_ : Int) = (M : Int) by have := HMI.out; omega]
  obtain ⟨w2, hw2⟩ : ∃ w2, Hid ((w.alloc (.cells #[.int .i64 0, .int .i64 0] 77)).alloc (.cells #[.int .i64 0, .int .i64 0] 77) = w2) := ⟨_, rfl⟩
  rw [hw2.out, hB4.out]
  obtain ⟨t4, t6, b12⟩ := HW2.out w2 hw2.out.symm
  have HLK : Hid (Calls Tryz.prog 80 #[.pointer (some ⟨F, 0, none⟩), .int .i64 at_] w2 fun e w' => (∃ v, e = .returned v) /\ (∃ h ad, Fd w' F G n (.slice (some ⟨b, o, none⟩) n c) W at_ h ad /\ Lk ds at_ h ad /\ ad.length = n) /\ Tch (fun j => j = F ∨ j = G) w2 w') :=
   zvz9 F G n b o c at_ k W h ad ds w2 (HF.out.below b12) (HD.out.below b12) HL.out HBF.out HA.out hn hc hc2 ha hk
  have T2 : Hid (Tch (fun j => j = F ∨ j = G) w w2) := Tch.of_below b12
  have hFB : F < B4 := by rw [<- hB4.out]; exact hFl
  have hGB : G < B4 := by rw [<- hB4.out]; exact HGl.out
  have U4 : Hid (TwoM w2 B4 0 0) := t4
  have U6 : Hid (TwoM w2 (B4 + 1) 0 0) := t6
  clear t4 t6 b12 HW2 HF HL HA c0 hFl HGl
  refine HLK.out.mono ?_
  clear HLK
  rintro e w3 ⟨⟨v3, rfl⟩, ⟨h3, ad3, hF3, hL3, hA3⟩, ht3⟩
  have F3 : Hid (Fd w3 F G n (.slice (some ⟨b, o, none⟩) n c) W at_ h3 ad3) := hF3
  have HL : Hid (Lk ds at_ h3 ad3) := hL3
  have HA : Hid (ad3.length = n) := hA3
  have T3 : Hid (Tch (fun j => j = F ∨ j = G) w w3) := T2.out.trans ht3 (fun _ _ e => e)
  have X4 : Hid (TwoM w3 B4 0 0) := U4.out.tch ht3 (fun e => by omega)
  have X6 : Hid (TwoM w3 (B4 + 1) 0 0) := U6.out.tch ht3 (fun e => by omega)
  have D3 : Hid (Dt w3 b o n ds) := HD.out.tch T3.out (fun e => by have := HBF.out; rcases e with e | e <;> simp [e] at this)
  have eh := hF3.ch s hs4
  obtain ⟨L0, hL0⟩ : ∃ L0, Hid (pv ds s at_ = L0) := ⟨_, rfl⟩
  have hL0b : L0 <= at_ := by rw [<- hL0.out]; exact pv_le _ _ _
  rw [hL3.1 s hs4, hL0.out] at eh
  have HSL : Hid (∀ q, Calls Tryz.prog 81 #[.pointer (some ⟨F, 0, none⟩), .int .i64 at_] (w3.drewN q) fun e w' => e = .returned (.int .i64 (s : Int)) /\ ∃ m, w' = (w3.drewN q).drewN m) := fun q => by
   have := zqv9 F G n b o c at_ W at_ h3 ad3 ds (w3.drewN q) (F3.out.below (Below.of_drewN _ _ _)) (D3.out.below (Below.of_drewN _ _ _)) hn hc hc2 ha
   rw [hs.out] at this
   exact this
  have hsI : (s : Int) < 4096 := by omega
  clear hF3 hL3 hA3 ht3 T2 U4 U6
  go_wp2_with fail
  go_step3
  go_wp2_with fail
  go_quiet (first | (go_at_call 81; exact Calls.quiet_of (HSL.out _)))
  go_wp2_with fail
  clear HSL eh
  go_loopw [7] (fun l wr => ∃ (L bl bd : Nat), l = .int .i64 L /\ L <= at_ /\ bl <= M /\ bd <= at_ /\ Hid (0 < L -> sl ds (L - 1) = s) /\ Hid (bst ds at_ (min W (at_ - L)) = (bl, bd)) /\ Hid (Fd wr F G n (.slice (some ⟨b, o, none⟩) n c) W at_ h3 ad3) /\ Hid (TwoM wr B4 0 0) /\ Hid (TwoM wr (B4 + 1) bl bd) /\ Hid (Tch (fun j => j = F ∨ j = G) w wr)) (fun l _ => (intOf l).toNat)
  case atStart =>
   refine ⟨L0, 0, 0, rfl, hL0b, Nat.zero_le _, Nat.zero_le _, ?_, ?_, ?_, ?_, ?_, ?_⟩
   ·show 0 < L0 -> _
    rw [<- hL0.out]; exact pv_sl ds s at_
   ·show _ = _
    rw [<- hL0.out, <- hs.out]; exact zoi9 ds W at_
   ·exact F3.out.below (Below.of_drewN _ _ _)
   ·exact X4.out.below (Below.of_drewN _ _ _)
   ·exact X6.out.below (Below.of_drewN _ _ _)
   ·exact T3.out.trans (Tch.of_below (S := fun j => j = F ∨ j = G) (Below.of_drewN _ _ _)) (fun _ _ e => e)
  case round =>
   clear F3 T3 X4 X6 D3
   obtain ⟨L, bl, bd, rfl, hLa, hbl, hbd, HSL, HBS, FF, Y4, Y6, TT⟩ := hrel
   have y0 := Y6.out.c0
   have y1 := Y6.out.c1
   have z0 := Y4.out.c0
   have z1 := Y4.out.c1
   have zf0 := Y4.out.fz 0
   have zf1 := Y4.out.fz 1
   by_cases hL : L = 0
   ·subst hL
    have HR : Hid (R = (bl, bd)) := by
     show R = _
     rw [<- hR.out, <- HBS.out]
     unfold best
     rw [Nat.sub_zero]
    have T9 : Hid (Tch (fun j => j = F ∨ j = G) w ((wr.setCell ⟨B4, 0, none⟩ (.int .i64 bl)).setCell ⟨B4, 1, none⟩ (.int .i64 bd))) := Tch.setCell (Tch.setCell TT.out (p := ⟨B4, 0, none⟩) (fun e => by have := hB4.out; simp only at e; omega) _) (p := ⟨B4, 1, none⟩) (fun e => by have := hB4.out; simp only at e; omega) _
    have F9 : Hid (Fd ((wr.setCell ⟨B4, 0, none⟩ (.int .i64 bl)).setCell ⟨B4, 1, none⟩ (.int .i64 bd)) F G n (.slice (some ⟨b, o, none⟩) n c) W at_ h3 ad3) := FF.out.tch (S := fun k => k = B4) ((tch1 wr B4 0 _).trans (tch1 _ B4 1 _) (fun _ _ e => e)) (fun e => by omega) (fun e => by omega)
    have Y9 : Hid (TwoM ((wr.setCell ⟨B4, 0, none⟩ (.int .i64 bl)).setCell ⟨B4, 1, none⟩ (.int .i64 bd)) B4 bl bd) := Y4.out.set bl bd
    go_wp2_with fail
    try rw [Exit.noGoto_ret]
    refine bodyPost_ret (v := .agg #[.int .i64 (bl : Int), .int .i64 (bd : Int)]) ?_ rfl ⟨by rw [HR.out], ⟨at_, h3, ad3, Nat.le_refl _, F9.out, HL.out, HA.out⟩, T9.out⟩
    exact zbm9 (p := 4) (ty := 77) rfl _ _ _ B4 _ rfl Y9.out.load
   ·obtain ⟨P, rfl⟩ : ∃ P, L = P + 1 := ⟨L - 1, by omega⟩
    have hPa : P < at_ := by omega
    have hLI : (0 : Int) < ((P + 1 : Nat) : Int) := by omega
    have f0 := FF.out.c0
    have f1 := FF.out.c1
    have f4 := FF.out.c4
    clear hL
    by_cases hfull : bl = M
    ·have g1 : ((bl : Int) == (M : Int)) = true := by rw [beq_iff_eq]; omega
     have HR : Hid (R = (bl, bd)) := by show R = _; rw [<- hR.out]; exact zst9 HBS.out (by rw [hM.out]; exact hfull)
     clear hfull
     have T9 : Hid (Tch (fun j => j = F ∨ j = G) w ((wr.setCell ⟨B4, 0, none⟩ (.int .i64 bl)).setCell ⟨B4, 1, none⟩ (.int .i64 bd))) := Tch.setCell (Tch.setCell TT.out (p := ⟨B4, 0, none⟩) (fun e => by have := hB4.out; simp only at e; omega) _) (p := ⟨B4, 1, none⟩) (fun e => by have := hB4.out; simp only at e; omega) _
     have F9 : Hid (Fd ((wr.setCell ⟨B4, 0, none⟩ (.int .i64 bl)).setCell ⟨B4, 1, none⟩ (.int .i64 bd)) F G n (.slice (some ⟨b, o, none⟩) n c) W at_ h3 ad3) := FF.out.tch (S := fun k => k = B4) ((tch1 wr B4 0 _).trans (tch1 _ B4 1 _) (fun _ _ e => e)) (fun e => by omega) (fun e => by omega)
     have Y9 : Hid (TwoM ((wr.setCell ⟨B4, 0, none⟩ (.int .i64 bl)).setCell ⟨B4, 1, none⟩ (.int .i64 bd)) B4 bl bd) := Y4.out.set bl bd
     go_wp2_with fail
     try rw [Exit.noGoto_ret]
     refine bodyPost_ret (v := .agg #[.int .i64 (bl : Int), .int .i64 (bd : Int)]) ?_ rfl ⟨by rw [HR.out], ⟨at_, h3, ad3, Nat.le_refl _, F9.out, HL.out, HA.out⟩, T9.out⟩
     exact zbm9 (p := 4) (ty := 77) rfl _ _ _ B4 _ rfl Y9.out.load
    ·have g1 : ((bl : Int) == (M : Int)) = false := by rw [beq_eq_false_iff_ne]; omega
     by_cases hfar : W < at_ - P
     ·have g2 : decide ((W : Int) < (at_ : Int) - (P : Int)) = true := by rw [decide_eq_true_eq]; omega
      have hfarI : (W : Int) < (at_ : Int) - (P : Int) := by omega
      have HR : Hid (R = (bl, bd)) := by show R = _; rw [<- hR.out]; exact zya9 HBS.out hPa hfar
      clear hfull
      have T9 : Hid (Tch (fun j => j = F ∨ j = G) w ((wr.setCell ⟨B4, 0, none⟩ (.int .i64 bl)).setCell ⟨B4, 1, none⟩ (.int .i64 bd))) := Tch.setCell (Tch.setCell TT.out (p := ⟨B4, 0, none⟩) (fun e => by have := hB4.out; simp only at e; omega) _) (p := ⟨B4, 1, none⟩) (fun e => by have := hB4.out; simp only at e; omega) _
      have F9 : Hid (Fd ((wr.setCell ⟨B4, 0, none⟩ (.int .i64 bl)).setCell ⟨B4, 1, none⟩ (.int .i64 bd)) F G n (.slice (some ⟨b, o, none⟩) n c) W at_ h3 ad3) := FF.out.tch (S := fun k => k = B4) ((tch1 wr B4 0 _).trans (tch1 _ B4 1 _) (fun _ _ e => e)) (fun e => by omega) (fun e => by omega)
      have Y9 : Hid (TwoM ((wr.setCell ⟨B4, 0, none⟩ (.int .i64 bl)).setCell ⟨B4, 1, none⟩ (.int .i64 bd)) B4 bl bd) := Y4.out.set bl bd
      go_wp2_with fail
      try rw [Exit.noGoto_ret]
      refine bodyPost_ret (v := .agg #[.int .i64 (bl : Int), .int .i64 (bd : Int)]) ?_ rfl ⟨by rw [HR.out], ⟨at_, h3, ad3, Nat.le_refl _, F9.out, HL.out, HA.out⟩, T9.out⟩
      exact zbm9 (p := 4) (ty := 77) rfl _ _ _ B4 _ rfl Y9.out.load
     ·have g2 : decide ((W : Int) < (at_ : Int) - (P : Int)) = false := by rw [decide_eq_false_iff_not]; omega
      have hnear : (at_ : Int) - (P : Int) <= (W : Int) := by omega
      have hblM : bl < M := by omega
      obtain ⟨L2, hL2⟩ : ∃ L2, Hid (pv ds s P = L2) := ⟨_, rfl⟩
      have hL2b : L2 <= P := by rw [<- hL2.out]; exact pv_le _ _ _
      have HS2 : Hid (0 < L2 -> sl ds (L2 - 1) = s) := by show 0 < L2 -> _; rw [<- hL2.out]; exact pv_sl ds s P
      have HAD : Hid (ad3.getD P 0 = (L2 : Int)) := by
       show _ = _
       rw [HL.out.2 P hPa, <- hL2.out]
       have := HSL.out (by omega)
       rw [Nat.add_sub_cancel] at this
       rw [this]
      have HBR : Hid (bst ds at_ (min W (at_ - L2)) = if 4 <= rn ds at_ P M /\ bl < rn ds at_ P M then (rn ds at_ P M, at_ - P) else (bl, bd)) := by
       show _ = _
       have := zoe9 hPa (by omega) HBS.out
       rw [hs.out, hL2.out, hM.out] at this
       exact this
      have hD := HD.out.tch TT.out (fun e => by have := HBF.out; rcases e with e | e <;> simp [e] at this)
      obtain ⟨x, hx⟩ : ∃ x, Hid (ds.getD (P + bl) 0 = x) := ⟨_, rfl⟩
      obtain ⟨y, hy⟩ : ∃ y, Hid (ds.getD (at_ + bl) 0 = y) := ⟨_, rfl⟩
      have cx : wr.cell? ⟨b, o + (P + bl), none⟩ = some (.int .u8 x) := by rw [hD.2.2 (P + bl) (by omega), hx.out]
      have cy : wr.cell? ⟨b, o + (at_ + bl), none⟩ = some (.int .u8 y) := by rw [hD.2.2 (at_ + bl) (by omega), hy.out]
      have HD3 : Hid (Dt wr b o n ds) := hD
      have hxI : (P : Int) + (bl : Int) < (n : Int) := by omega
      have hyI : (at_ : Int) + (bl : Int) < (n : Int) := by omega
      clear hfull hfar hD HSL
      by_cases hxy : x = y
      ·have g3 : (x != y) = false := by simp [hxy]
       clear hxy
       go_wp2_with fail
       go_quiet (fail)
       obtain ⟨w4, hw4⟩ : ∃ w4, Hid (wr.drewN nq = w4) := ⟨_, rfl⟩
       rw [hw4.out]
       have b4 : Below wr.heap.size wr w4 := by rw [<- hw4.out]; exact Below.of_drewN _ _ _
       obtain ⟨r, hr⟩ : ∃ r, Hid (rn ds at_ P M = r) := ⟨_, rfl⟩
       have hrM : r <= M := by rw [<- hr.out]; exact rn_le _ _ _ _
       rw [hr.out] at HBR
       have HSM : Hid (Calls Tryz.prog 82 #[.pointer (some ⟨F, 0, none⟩), .int .i64 (P : Int), .int .i64 (at_ : Int), .int .i64 (M : Int)] w4 fun e w' => e = .returned (.int .i64 (r : Int)) /\ Below w4.heap.size w4 w') := by
        have := zrz9 F G n b o c P at_ M W at_ h3 ad3 ds w4 (FF.out.below b4) (HD3.out.below b4) hn (by omega) (by omega)
        rw [zzw9, hr.out] at this
        exact this
       have F4 : Hid (Fd w4 F G n (.slice (some ⟨b, o, none⟩) n c) W at_ h3 ad3) := FF.out.below b4
       have V4 : Hid (TwoM w4 B4 0 0) := Y4.out.below b4
       have V6 : Hid (TwoM w4 (B4 + 1) bl bd) := Y6.out.below b4
       have TW : Hid (Tch (fun j => j = F ∨ j = G) w w4) := TT.out.trans (Tch.of_below (S := fun j => j = F ∨ j = G) b4) (fun _ _ e => e)
       clear b4 FF Y4 Y6 TT y0 y1 z0 z1 zf0 zf1 f0 f1 f4 cx cy HD3
       go_wp2_with fail
       refine HSM.out.mono ?_
       clear HSM
       rintro e w5 ⟨rfl, b5⟩
       have F5 : Hid (Fd w5 F G n (.slice (some ⟨b, o, none⟩) n c) W at_ h3 ad3) := F4.out.below b5
       have V4' : Hid (TwoM w5 B4 0 0) := V4.out.below b5
       have V6' : Hid (TwoM w5 (B4 + 1) bl bd) := V6.out.below b5
       have TW5 : Hid (Tch (fun j => j = F ∨ j = G) w w5) := TW.out.trans (Tch.of_below (S := fun j => j = F ∨ j = G) b5) (fun _ _ e => e)
       have y0 := V6'.out.c0
       have y1 := V6'.out.c1
       have yf0 := V6'.out.fz 0
       have yf1 := V6'.out.fz 1
       have f4 := F5.out.c4
       obtain ⟨_, _, e3, _, _, _, q3, _⟩ := F5.out.own.shape (by rw [HA.out]; omega)
       rw [HA.out] at e3
       cases e3
       have ck := q3 P (by rw [HA.out]; omega)
       rw [HAD.out] at ck
       have hPn : (P : Int) < (n : Int) := by omega
       have hne1 : ¬ F = B4 + 1 := by omega
       have hne2 : ¬ G = B4 + 1 := by omega
       clear b5 F4 V4 V6 TW q3
       by_cases hbet : 4 <= r /\ bl < r
       ·have g4 : decide ((4 : Int) <= (r : Int)) = true := by rw [decide_eq_true_eq]; omega
        have g5 : decide ((bl : Int) < (r : Int)) = true := by rw [decide_eq_true_eq]; omega
        have hd1 : (at_ : Int) - (P : Int) = ((at_ - P : Nat) : Int) := by omega
        obtain ⟨w6, hw6⟩ : ∃ w6, Hid ((w5.setCell ⟨B4 + 1, 0, none⟩ (.int .i64 (r : Int))).setCell ⟨B4 + 1, 1, none⟩ (.int .i64 ((at_ - P : Nat) : Int)) = w6) := ⟨_, rfl⟩
        have V66 : Hid (TwoM w6 (B4 + 1) r (at_ - P : Nat)) := by show TwoM _ _ _ _; rw [<- hw6.out]; exact V6'.out.set r (at_ - P : Nat)
        have t6 : Tch (fun k => k = B4 + 1) w5 w6 := by rw [<- hw6.out]; exact (tch1 w5 (B4 + 1) 0 _).trans (tch1 _ (B4 + 1) 1 _) (fun _ _ e => e)
        have F6 : Hid (Fd w6 F G n (.slice (some ⟨b, o, none⟩) n c) W at_ h3 ad3) := F5.out.tch t6 (fun e => by omega) (fun e => by omega)
        have V46 : Hid (TwoM w6 B4 0 0) := V4'.out.tch t6 (fun e => by omega)
        have TW6 : Hid (Tch (fun j => j = F ∨ j = G) w w6) := by
         have h1 : Tch (fun j => j = F ∨ j = G) w w6 := ⟨t6.os.trans TW5.out.os, t6.tape.trans TW5.out.tape, t6.output.trans TW5.out.output, Nat.le_trans TW5.out.size t6.size, fun j hj hn => by
          rw [t6.block j (Nat.lt_of_lt_of_le hj TW5.out.size) (by have := hB4.out; omega)]; exact TW5.out.block j hj hn⟩
         exact h1
        have HBN : Hid (bst ds at_ (min W (at_ - L2)) = (r, at_ - P)) := by show _ = _; rw [HBR.out, if_pos hbet]
        have hr4 : (4 : Int) <= (r : Int) := by omega
        have hrb : (bl : Int) < (r : Int) := by omega
        clear t6 hbet HBR g4 g5
        go_wp2_with fail
        rw [hw6.out]
        go_roundw
        case rel => exact ⟨L2, r, at_ - P, rfl, by omega, hrM, by omega, HS2, HBN, F6, V46, V66, TW6⟩
        case measure => simp [intOf]; omega
       ·have HBN : Hid (bst ds at_ (min W (at_ - L2)) = (bl, bd)) := by show _ = _; rw [HBR.out, if_neg hbet]
        by_cases hr4 : 4 <= r
        ·have hr4I : (4 : Int) <= (r : Int) := by omega
         have hrb : (r : Int) <= (bl : Int) := by omega
         have g5 : decide ((bl : Int) < (r : Int)) = false := by rw [decide_eq_false_iff_not]; omega
         clear hbet HBR hr4
         go_wp2_with fail
         go_roundw
         case rel => exact ⟨L2, bl, bd, rfl, by omega, hbl, hbd, HS2, HBN, F5, V4', V6', TW5⟩
         case measure => simp [intOf]; omega
        ·have g4 : decide ((4 : Int) <= (r : Int)) = false := by rw [decide_eq_false_iff_not]; omega
         clear hbet HBR hr4
         go_wp2_with fail
         go_roundw
         case rel => exact ⟨L2, bl, bd, rfl, by omega, hbl, hbd, HS2, HBN, F5, V4', V6', TW5⟩
         case measure => simp [intOf]; omega
      ·have g3 : (x != y) = true := by simp [hxy]
       have HBN : Hid (bst ds at_ (min W (at_ - L2)) = (bl, bd)) := by
        show _ = _
        have h1 : rn ds at_ P M <= bl := zyq9 (by rw [hx.out, hy.out]; exact hxy)
        rw [HBR.out, if_neg (by omega)]
       obtain ⟨_, _, e3, _, _, _, q3, _⟩ := FF.out.own.shape (by rw [HA.out]; omega)
       rw [HA.out] at e3
       cases e3
       have ck := q3 P (by rw [HA.out]; omega)
       rw [HAD.out] at ck
       have hPn : (P : Int) < (n : Int) := by omega
       clear q3 hxy HBR
       go_wp2_with fail
       go_quiet (fail)
       go_wp2_with fail
       go_roundw
       case rel => exact ⟨L2, bl, bd, rfl, by omega, hbl, hbd, HS2, HBN, FF.out.below (Below.of_drewN _ _ _), Y4.out.below (Below.of_drewN _ _ _), Y6.out.below (Below.of_drewN _ _ _), TT.out.trans (Tch.of_below (S := fun j => j = F ∨ j = G) (Below.of_drewN _ _ _)) (fun _ _ e => e)⟩
       case measure => simp [intOf]; omega
def fst_ (ds : List Int) (W : Nat) : Nat -> Nat × Nat × List Sq
 | 0 => (0, 0, [])
 | k + 1 =>
  if (fst_ ds W k).1 < ds.length then
   if (best ds W (fst_ ds W k).1).1 = 0 ∨ (best ds W (fst_ ds W k).1).1 < (best ds W ((fst_ ds W k).1 + 1)).1 then ((fst_ ds W k).1 + 1, (fst_ ds W k).2.1 + 1, (fst_ ds W k).2.2)
   else ((fst_ ds W k).1 + (best ds W (fst_ ds W k).1).1, 0, (fst_ ds W k).2.2 ++ [(((fst_ ds W k).2.1 : Int), ((best ds W (fst_ ds W k).1).1 : Int), ((best ds W (fst_ ds W k).1).2 : Int))])
  else fst_ ds W k
theorem zhs9 (ds : List Int) (W i : Nat) : (best ds W i).1 <= ds.length - i /\ (best ds W i).2 <= i /\ (best ds W i).1 <= 259 := by
 unfold best
 have h1 := bst_le ds i (min W i)
 have h2 := zqc9 ds i (min W i)
 unfold ml at h1
 omega
theorem zwr9 (ds : List Int) (W k : Nat) (h : ds.length <= (fst_ ds W k).1) : ∀ m, k <= m -> fst_ ds W m = fst_ ds W k := by
 intro m hm
 induction m with
 | zero => obtain rfl : k = 0 := by omega
           rfl
 | succ m ih =>
  by_cases e : k = m + 1
  ·rw [e]
  ·have := ih (by omega)
   simp only [fst_]
   rw [this, if_neg (by omega)]
def steps (ds : List Int) (W : Nat) : List Sq := (fst_ ds W ds.length).2.2
theorem zqw9 (ds : List Int) (W k : Nat) (h : ds.length <= (fst_ ds W k).1) (hk : k <= ds.length) : steps ds W = (fst_ ds W k).2.2 := by
 unfold steps
 rw [zwr9 ds W k h _ hk]
theorem znx9 (ds : List Int) (W : Nat) : ∀ k, (fst_ ds W k).2.2.length <= k
 | 0 => Nat.le_refl _
 | k + 1 => by
  have := znx9 ds W k
  simp only [fst_]
  split
  ·split
   ·simp only; omega
   ·simp only [List.length_append, List.length_cons, List.length_nil]; omega
  ·omega
def findR (ds : List Int) (win : Int) : Int × List Sq := if 65536 < ds.length ∨ win < 1 ∨ 65536 < win then (1, []) else (0, steps ds win.toNat)
def FPost (r : Int × List Sq) (w : World) (e : Ending) (w' : World) : Prop :=
 ∃ d, e = .returned (.tuple #[d, .int .i64 r.1]) /\ Below w.heap.size w w' /\ (∀ k, d.ownBlock = some k -> w.heap.size <= k) /\ OwnsS w' d r.2
theorem FPost.bad {E : Int} {w w' : World} (hb : Below w.heap.size w w') : FPost (E, []) w (.returned (.tuple #[.slice none 0 0, .int .i64 E])) w' :=
 ⟨_, rfl, hb, (fun k e => by cases e), zgy9 _⟩
theorem zjw9 (F G n b o c at_ : Nat) (win : Int) (W : Nat) (ds : List Int) (w : World) (H : Fnd w F G n b o c win ds at_) (D : Dt w b o n ds) (hbF : b ≠ F /\ b ≠ G) (hn : n <= 65536) (hc : n <= c) (hc2 : c <= 9223372036854775807) (ha : at_ <= n) (hw0 : win = W) (hw1 : 1 <= W) (hw2 : W <= 65536) :
  Calls Tryz.prog 51 #[.pointer (some ⟨F, 0, none⟩), .int .i64 at_] w fun e w' => e = .returned (.agg #[.int .i64 ((best ds W at_).1 : Int), .int .i64 ((best ds W at_).2 : Int)]) /\ Fnd w' F G n b o c win ds at_ /\ Tch (fun j => j = F ∨ j = G) w w' := by
 by_cases h : at_ + 4 <= n
 ·exact zsf9 F G n b o c at_ win W ds w H D hbF hn hc hc2 h hw0 hw1 hw2
 ·exact zwp9 F G n b o c at_ win W ds w H D hn ha (by omega)
theorem zxu9 (a : Option Addr) (n c : Nat) (win : Int) (w : World) (h : 65536 < n ∨ win < 1 ∨ 65536 < win) :
  Calls Tryz.prog 25 #[.slice a n c, .int .i64 win] w fun e w' => FPost (1, []) w e w' := by
 by_cases h1 : 65536 < n
 ·have h1' : (65536 : Int) < (n : Int) := by omega
  clear h
  go_enter Tryz.func25, Tryz.ntmps25
  go_wp2_with fail
  go_ret2
  exact FPost.bad (Below.refl _ _)
 ·have g1 : decide ((65536 : Int) < (n : Int)) = false := by rw [decide_eq_false_iff_not]; omega
  by_cases h2 : win < 1
  ·clear h
   go_enter Tryz.func25, Tryz.ntmps25
   go_wp2_with fail
   go_ret2
   exact FPost.bad (Below.refl _ _)
  ·have g2 : decide (win < 1) = false := by rw [decide_eq_false_iff_not]; omega
   have h3 : 65536 < win := by omega
   clear h
   go_enter Tryz.func25, Tryz.ntmps25
   go_wp2_with fail
   go_ret2
   exact FPost.bad (Below.refl _ _)
structure Fs (w wr : World) (F G B n b o c : Nat) (W : Nat) (ds : List Int) (k at_ lits : Nat) (v : Value) : Prop where
 fnd : Fnd wr F G n b o c W ds at_
 two : TwoM wr B (best ds W at_).1 (best ds W at_).2
 own : OwnsS wr v (fst_ ds W k).2.2
 bel : Below w.heap.size w wr
 nF : w.heap.size <= F
 nG : w.heap.size <= G
 nB : w.heap.size <= B
 nv : ∀ j, v.ownBlock = some j -> w.heap.size <= j
theorem Fnd.blk {w : World} {F G n b o c : Nat} {win : Int} {ds : List Int} {at_ : Nat} (H : Fnd w F G n b o c win ds at_) : ∃ cs : Array Value, w.heap[F]? = some (.cells cs 110 (0, 0)) := by
 obtain ⟨k, h, ad, _, hF, _, _⟩ := H
 exact ⟨_, hF.blk⟩
theorem Fnd.blkG {w : World} {F G n b o c : Nat} {win : Int} {ds : List Int} {at_ : Nat} (H : Fnd w F G n b o c win ds at_) : ∃ cs : Array Value, w.heap[G]? = some (.cells cs 3 (0, 0)) := by
 obtain ⟨k, h, ad, _, hF, _, _⟩ := H
 exact zv9 (w := w) hF.own rfl
theorem Fnd.tch {S : Nat -> Prop} {w w' : World} {F G n b o c : Nat} {win : Int} {ds : List Int} {at_ : Nat} (H : Fnd w F G n b o c win ds at_) (ht : Tch S w w') (hF : ¬ S F) (hG : ¬ S G) : Fnd w' F G n b o c win ds at_ := by
 obtain ⟨k, h, ad, hk, h1, h2, h3⟩ := H
 exact ⟨k, h, ad, hk, h1.tch ht hF hG, h2, h3⟩
theorem Fnd.below {w w' : World} {F G n b o c : Nat} {win : Int} {ds : List Int} {at_ : Nat} (H : Fnd w F G n b o c win ds at_) (hb : Below w.heap.size w w') : Fnd w' F G n b o c win ds at_ :=
 H.tch (S := fun _ => False) (Tch.of_below hb) (fun e => e) (fun e => e)
theorem Fnd.up {w : World} {F G n b o c : Nat} {win : Int} {ds : List Int} {i j : Nat} (H : Fnd w F G n b o c win ds i) (hij : i <= j) : Fnd w F G n b o c win ds j := by
 obtain ⟨k, h, ad, hk, h1, h2, h3⟩ := H
 exact ⟨k, h, ad, by omega, h1, h2, h3⟩
theorem blk_ne {w : World} {i j : Nat} {c d : Array Value} {s t : TypeId} (hi : w.heap[i]? = some (.cells c s (0, 0))) (hj : w.heap[j]? = some (.cells d t (0, 0))) (h : s ≠ t) : i ≠ j := by
 intro e
 subst e
 rw [hi] at hj
 simp at hj
 exact h hj.2
theorem own_ne {w : World} {v : Value} {ps : List Sq} (h : OwnsS w v ps) {b : Nat} {cs : Array Value} {t : TypeId} (hb : w.heap[b]? = some (.cells cs t (0, 0))) (ht : t ≠ 55) : v.ownBlock ≠ some b := fun e => h.ne_blk hb ht e rfl
theorem ztz9 {w w4 : World} {F G B n b o c W k at_ lits : Nat} {ds : List Int} {v : Value} {x y x2 y2 : Nat} (F4 : Fnd w4 F G n b o c W ds at_) (T4 : TwoM w4 B x y) (O4 : OwnsS w4 v (fst_ ds W k).2.2) (B4 : Below w.heap.size w w4)
  (hF : w.heap.size <= F) (hG : w.heap.size <= G) (hB : w.heap.size <= B) (hv : ∀ j, v.ownBlock = some j -> w.heap.size <= j) (hx : (best ds W at_).1 = x2) (hy : (best ds W at_).2 = y2) {W6 : World}
  (hW : Tch (fun j => j = B) w4 W6) (hT : TwoM W6 (W6.heap.size - 1) x2 y2) : Fs w W6 F G (W6.heap.size - 1) n b o c W ds k at_ lits v := by
 obtain ⟨cF, bF⟩ := F4.blk
 obtain ⟨cG, bG⟩ := F4.blkG
 refine ⟨F4.tch hW (blk_ne bF T4 (by decide)) (blk_ne bG T4 (by decide)), by rw [hx, hy]; exact hT, O4.tch hW (fun j hj e => by rw [e] at hj; exact own_ne O4 T4 (by decide) hj), B4.trans (hW.below B4.size (fun k e => by rw [e]; exact hB)), hF, hG, ?_, hv⟩
 have h1 := B4.size
 have h2 := hW.size
 have h3 := hT.lt
 have h4 := T4.lt
 have h5 : B < W6.heap.size := by omega
 omega
theorem tch2 (w : World) (b : Nat) (u v : Value) : Tch (fun k => k = b) w ((w.setCell ⟨b, 0, none⟩ u).setCell ⟨b, 1, none⟩ v) := (tch1 w b 0 u).trans (tch1 _ b 1 v) (fun _ _ e => e)
set_option maxRecDepth 100000 in
theorem zsy9 (n b o c : Nat) (W : Nat) (ds : List Int) (w : World) (D : Dt w b o n ds) (h0 : 0 < n) (hn : n <= 65536) (hc : n <= c) (hc2 : c <= 9223372036854775807) (hw1 : 1 <= W) (hw2 : W <= 65536) :
  Calls Tryz.prog 25 #[.slice (some ⟨b, o, none⟩) n c, .int .i64 W] w fun e w' => FPost (0, steps ds W) w e w' := by
 have HD : Hid (Dt w b o n ds) := D
 have hbw : b < w.heap.size := World.block_lt_of_cell? w ⟨b, o + 0, none⟩ (D.2.2 0 h0)
 have g1 : decide ((65536 : Int) < (n : Int)) = false := by rw [decide_eq_false_iff_not]; omega
 have g2 : decide ((W : Int) < 1) = false := by rw [decide_eq_false_iff_not]; omega
 have g3 : decide ((65536 : Int) < (W : Int)) = false := by rw [decide_eq_false_iff_not]; omega
 clear D
 go_enter Tryz.func25, Tryz.ntmps25
 go_wp2_with fail
 refine (zdu9 _ n c W w hn).mono ?_
 rintro e w2 ⟨F, G, rfl, hF, hb2, hF1, hG1⟩
 have F2 : Hid (Fnd w2 F G n b o c W ds 0) := ⟨0, _, _, Nat.le_refl _, hF, ⟨fun s _ => rfl, fun p hp => by omega⟩, by simp⟩
 have B2 : Hid (Below w.heap.size w w2) := hb2
 have HBF : Hid (b ≠ F /\ b ≠ G) := ⟨by omega, by omega⟩
 have HB0 : Hid (Calls Tryz.prog 51 #[.pointer (some ⟨F, 0, none⟩), .int .i64 ((0 : Nat) : Int)] w2 fun e w' => e = .returned (.agg #[.int .i64 ((best ds W 0).1 : Int), .int .i64 ((best ds W 0).2 : Int)]) /\ Fnd w' F G n b o c W ds 0 /\ Tch (fun j => j = F ∨ j = G) w2 w') :=
  zjw9 F G n b o c 0 W W ds w2 F2.out (HD.out.below hb2) HBF.out hn hc hc2 (Nat.zero_le _) rfl hw1 hw2
 clear hF hb2
 go_wp2_with fail
 refine HB0.out.mono ?_
 clear HB0
 rintro e w3 ⟨rfl, hF3, ht3⟩
 have F3 : Hid (Fnd w3 F G n b o c W ds 0) := hF3
 have B3 : Hid (Below w.heap.size w w3) := B2.out.trans (ht3.below B2.out.size (fun k e => by rcases e with e | e <;> omega))
 obtain ⟨x, hx⟩ : ∃ x : Nat, Hid ((best ds W 0).1 = x) := ⟨_, rfl⟩
 obtain ⟨y, hy⟩ : ∃ y : Nat, Hid ((best ds W 0).2 = y) := ⟨_, rfl⟩
 rw [hx.out, hy.out]
 clear hF3 ht3 F2 B2
 go_wp2_with fail
 have hinit : Fs w (w3.alloc (.cells #[.int .i64 (x : Int), .int .i64 (y : Int)] 77)) F G w3.heap.size n b o c W ds 0 0 0 (.slice none 0 0) := by
  have ba : Below w3.heap.size w3 (w3.alloc (.cells #[.int .i64 (x : Int), .int .i64 (y : Int)] 77)) := (Below.refl _ _).alloc (Nat.le_refl _) _
  refine ⟨F3.out.below ba, ?_, zgy9 _, B3.out.trans (ba.mono B3.out.size), hF1, hG1, B3.out.size, fun j e => by cases e⟩
  rw [hx.out, hy.out]
  exact zes9 w3 x y
 have HI : Hid (Fs w (w3.alloc (.cells #[.int .i64 (x : Int), .int .i64 (y : Int)] 77)) F G w3.heap.size n b o c W ds 0 0 0 (.slice none 0 0)) := hinit
 have hln : n = ds.length := HD.out.1
 have HLN : Hid (n = ds.length) := hln
 clear hinit F3 B3 hln
 go_loopw [7, 8, 9, 10] (fun v l a p wr => ∃ (k at_ lits B : Nat), k <= at_ /\ at_ <= n /\ lits <= at_ /\ l = .int .i64 lits /\ a = .int .i64 at_ /\ p = .pointer (some ⟨B, 0, none⟩) /\ Hid ((fst_ ds W k).1 = at_ /\ (fst_ ds W k).2.1 = lits) /\ Hid (Fs w wr F G B n b o c W ds k at_ lits v)) (fun _ _ a _ _ => n - (intOf a).toNat)
 case atStart => exact ⟨0, 0, 0, w3.heap.size, Nat.le_refl _, Nat.zero_le _, Nat.le_refl _, rfl, rfl, rfl, ⟨rfl, rfl⟩, HI⟩
 case round =>
  clear HI
  obtain ⟨k, at_, lits, B, hka, hat, hlit, rfl, rfl, rfl, HST, HFS⟩ := hrel
  by_cases hlt : at_ < n
  ·obtain ⟨x, hx⟩ : ∃ x : Nat, Hid ((best ds W at_).1 = x) := ⟨_, rfl⟩
   obtain ⟨y, hy⟩ : ∃ y : Nat, Hid ((best ds W at_).2 = y) := ⟨_, rfl⟩
   obtain ⟨x2, hx2⟩ : ∃ x : Nat, Hid ((best ds W (at_ + 1)).1 = x) := ⟨_, rfl⟩
   obtain ⟨y2, hy2⟩ : ∃ y : Nat, Hid ((best ds W (at_ + 1)).2 = y) := ⟨_, rfl⟩
   have hxb := zhs9 ds W at_
   rw [hx.out, hy.out, <- HLN.out] at hxb
   have hxb2 := zhs9 ds W (at_ + 1)
   rw [hx2.out, hy2.out, <- HLN.out] at hxb2
   have HB1 : Hid (Calls Tryz.prog 51 #[.pointer (some ⟨F, 0, none⟩), .int .i64 ((at_ : Int) + 1)] wr fun e w' => e = .returned (.agg #[.int .i64 (x2 : Int), .int .i64 (y2 : Int)]) /\ Fnd w' F G n b o c W ds (at_ + 1) /\ Tch (fun j => j = F ∨ j = G) wr w') := by
    have := zjw9 F G n b o c (at_ + 1) W W ds wr (HFS.out.fnd.up (by omega)) (HD.out.below HFS.out.bel) HBF.out hn hc hc2 (by omega) rfl hw1 hw2
    rw [hx2.out, hy2.out] at this
    push_cast at this
    exact this
   go_wp2_with fail
   refine HB1.out.mono ?_
   clear HB1
   rintro e w4 ⟨rfl, hF4, ht4⟩
   have F4 : Hid (Fnd w4 F G n b o c W ds (at_ + 1)) := hF4
   have B4 : Hid (Below w.heap.size w w4) := HFS.out.bel.trans (ht4.below HFS.out.bel.size (fun k e => by rcases e with e | e <;> omega))
   obtain ⟨cF, bF⟩ := HFS.out.fnd.blk
   obtain ⟨cG, bG⟩ := HFS.out.fnd.blkG
   have T4 : Hid (TwoM w4 B x y) := by
    have := HFS.out.two
    rw [hx.out, hy.out] at this
    exact this.tch ht4 (fun e => by
     rcases e with e | e
     ·exact blk_ne HFS.out.two bF (by decide) e
     ·exact blk_ne HFS.out.two bG (by decide) e)
   have O4 : Hid (OwnsS w4 u7 (fst_ ds W k).2.2) := HFS.out.own.tch ht4 (fun j hj e => by
     rcases e with e | e
     ·rw [e] at hj; exact own_ne HFS.out.own bF (by decide) hj
     ·rw [e] at hj; exact own_ne HFS.out.own bG (by decide) hj)
   have hBl : B < w4.heap.size := T4.out.lt
   have HNB : Hid (w.heap.size <= B) := HFS.out.nB
   have HNV : Hid (∀ j, u7.ownBlock = some j -> w.heap.size <= j) := HFS.out.nv
   have HLEN : Hid ((fst_ ds W k).2.2.length <= k) := znx9 ds W k
   have c0 := T4.out.c0
   have c1 := T4.out.c1
   have z0 := T4.out.fz 0
   have z1 := T4.out.fz 1
   clear hF4 ht4 bF bG HFS
   by_cases hlitc : x = 0 ∨ x < x2
   ·have HST2 : Hid (fst_ ds W (k + 1) = (at_ + 1, lits + 1, (fst_ ds W k).2.2)) := by
     show _ = _
     simp only [fst_]
     rw [HST.out.1, HST.out.2, hx.out, hx2.out, if_pos (by rw [<- HLN.out]; exact hlt), if_pos hlitc]
    have HW6 : Hid (Fs w ((((w4.setCell ⟨B, 0, none⟩ (.int .i64 (x2 : Int))).setCell ⟨B, 1, none⟩ (.int .i64 (y2 : Int))).alloc (.cells #[.int .i64 (x2 : Int), .int .i64 (y2 : Int)] 77)).alloc (.cells #[.int .i64 (x2 : Int), .int .i64 (y2 : Int)] 77)) F G (w4.heap.size + 1) n b o c W ds (k + 1) (at_ + 1) (lits + 1) u7) := by
     have hO : OwnsS w4 u7 (fst_ ds W (k + 1)).2.2 := by rw [HST2.out]; exact O4.out
     have h2 := zes9 (((w4.setCell ⟨B, 0, none⟩ (.int .i64 (x2 : Int))).setCell ⟨B, 1, none⟩ (.int .i64 (y2 : Int))).alloc (.cells #[.int .i64 (x2 : Int), .int .i64 (y2 : Int)] 77)) x2 y2
     have h3 : (((w4.setCell ⟨B, 0, none⟩ (.int .i64 (x2 : Int))).setCell ⟨B, 1, none⟩ (.int .i64 (y2 : Int))).alloc (.cells #[.int .i64 (x2 : Int), .int .i64 (y2 : Int)] 77)).heap.size = w4.heap.size + 1 := by simp
     rw [h3] at h2
     have := ztz9 (lits := lits + 1) F4.out T4.out hO B4.out hF1 hG1 HNB.out HNV.out hx2.out hy2.out (((tch2 w4 B (.int .i64 (x2 : Int)) (.int .i64 (y2 : Int))).alloc (.cells #[.int .i64 (x2 : Int), .int .i64 (y2 : Int)] 77)).alloc (.cells #[.int .i64 (x2 : Int), .int .i64 (y2 : Int)] 77)) (by simp only [World.size_alloc, h3, Nat.add_sub_cancel]; exact h2)
     simp only [World.size_alloc, h3, Nat.add_sub_cancel] at this
     exact this
    have HS3 : Hid ((fst_ ds W (k + 1)).1 = at_ + 1 /\ (fst_ ds W (k + 1)).2.1 = lits + 1) := ⟨by rw [HST2.out], by rw [HST2.out]⟩
    by_cases hx0 : x = 0
    ·have g4 : ((x : Int) == 0) = true := by rw [beq_iff_eq]; omega
     clear hlitc hx0
     go_wp2_with fail
     exact ⟨⟨k + 1, at_ + 1, lits + 1, w4.heap.size + 1, by omega, by omega, by omega, by push_cast; rfl, by push_cast; rfl, rfl, HS3, HW6⟩, by simp [intOf]; omega⟩
    ·have g4 : ((x : Int) == 0) = false := by rw [beq_eq_false_iff_ne]; omega
     have g5 : (x : Int) < (x2 : Int) := by omega
     clear hlitc hx0
     go_wp2_with fail
     exact ⟨⟨k + 1, at_ + 1, lits + 1, w4.heap.size + 1, by omega, by omega, by omega, by push_cast; rfl, by push_cast; rfl, rfl, HS3, HW6⟩, by simp [intOf]; omega⟩
   ·have hx1 : 0 < x := by omega
    have g4 : ((x : Int) == 0) = false := by rw [beq_eq_false_iff_ne]; omega
    have g5 : decide (x < x2) = false := by rw [decide_eq_false_iff_not]; omega
    have g6 : x2 <= x := by omega
    have HST2 : Hid (fst_ ds W (k + 1) = (at_ + x, 0, (fst_ ds W k).2.2 ++ [((lits : Int), (x : Int), (y : Int))])) := by
     show _ = _
     simp only [fst_]
     rw [HST.out.1, HST.out.2, hx.out, hy.out, hx2.out, if_pos (by rw [<- HLN.out]; exact hlt), if_neg hlitc]
    clear hlitc
    obtain ⟨wA, hwA⟩ : ∃ wA, Hid (w4.alloc (.cells #[.int .i64 (x2 : Int), .int .i64 (y2 : Int)] 77) = wA) := ⟨_, rfl⟩
    have bA : Below w4.heap.size w4 wA := by rw [<- hwA.out]; exact (Below.refl _ _).alloc (Nat.le_refl _) _
    have FA : Hid (Fnd wA F G n b o c W ds (at_ + 1)) := F4.out.below bA
    have TA : Hid (TwoM wA B x y) := T4.out.below bA
    have OA : Hid (OwnsS wA u7 (fst_ ds W k).2.2) := O4.out.below bA
    have BA : Hid (Below w.heap.size w wA) := B4.out.trans (bA.mono B4.out.size)
    clear bA
    rw [<- hwA.out] at FA TA OA BA
    go_wp2_with (at_builtin; refine zeg9 (w4.alloc (.cells #[.int .i64 (x2 : Int), .int .i64 (y2 : Int)] 77)) rfl (.tmp 51) (.tmp 58) rfl u7 (fst_ ds W k).2.2 rfl OA.out ((lits : Int), (x : Int), (y : Int)) (by show Value.slice (some ⟨w4.heap.size + 1, 0, none⟩) 1 1 = _; rw [World.size_alloc]) (by have := HLEN.out; omega) ?_)
    intro v5 w5 ho5 hg5
    rw [hwA.out] at FA TA OA BA hg5
    obtain ⟨cF, bF⟩ := FA.out.blk
    obtain ⟨cG, bG⟩ := FA.out.blkG
    have F5 : Hid (Fnd w5 F G n b o c W ds (at_ + x)) := (FA.out.tch hg5.tch (own_ne OA.out bF (by decide)) (own_ne OA.out bG (by decide))).up (by omega)
    have T5 : Hid (TwoM w5 B x y) := TA.out.tch hg5.tch (own_ne OA.out TA.out (by decide))
    obtain ⟨b5, n5⟩ : Below w.heap.size w w5 /\ ∀ j, v5.ownBlock = some j -> w.heap.size <= j := hg5.onto BA.out HNV.out
    have B5 : Hid (Below w.heap.size w w5) := b5
    have N5 : Hid (∀ j, v5.ownBlock = some j -> w.heap.size <= j) := n5
    have O5 : Hid (OwnsS w5 v5 (fst_ ds W (k + 1)).2.2) := by show OwnsS _ _ _; rw [HST2.out]; exact ho5
    obtain ⟨x3, hx3⟩ : ∃ q : Nat, Hid ((best ds W (at_ + x)).1 = q) := ⟨_, rfl⟩
    obtain ⟨y3, hy3⟩ : ∃ q : Nat, Hid ((best ds W (at_ + x)).2 = q) := ⟨_, rfl⟩
    have HB5 : Hid (Calls Tryz.prog 51 #[.pointer (some ⟨F, 0, none⟩), .int .i64 ((at_ : Int) + (x : Int))] w5 fun e w' => e = .returned (.agg #[.int .i64 (x3 : Int), .int .i64 (y3 : Int)]) /\ Fnd w' F G n b o c W ds (at_ + x) /\ Tch (fun j => j = F ∨ j = G) w5 w') := by
     have := zjw9 F G n b o c (at_ + x) W W ds w5 F5.out (HD.out.below B5.out) HBF.out hn hc hc2 (by omega) rfl hw1 hw2
     rw [hx3.out, hy3.out] at this
     push_cast at this
     exact this
    have c0 := T5.out.c0
    have c1 := T5.out.c1
    clear FA TA OA BA bF bG hg5 ho5 b5 n5 F4 T4 O4 B4 z0 z1
    go_wp2_with fail
    refine HB5.out.mono ?_
    clear HB5
    rintro e w6 ⟨rfl, hF6, ht6⟩
    obtain ⟨cF, bF⟩ := F5.out.blk
    obtain ⟨cG, bG⟩ := F5.out.blkG
    have F6 : Hid (Fnd w6 F G n b o c W ds (at_ + x)) := hF6
    have T6 : Hid (TwoM w6 B x y) := T5.out.tch ht6 (fun e => by
     rcases e with e | e
     ·exact blk_ne T5.out bF (by decide) e
     ·exact blk_ne T5.out bG (by decide) e)
    have O6 : Hid (OwnsS w6 v5 (fst_ ds W (k + 1)).2.2) := O5.out.tch ht6 (fun j hj e => by
     rcases e with e | e
     ·rw [e] at hj; exact own_ne O5.out bF (by decide) hj
     ·rw [e] at hj; exact own_ne O5.out bG (by decide) hj)
    have B6 : Hid (Below w.heap.size w w6) := B5.out.trans (ht6.below B5.out.size (fun k e => by rcases e with e | e <;> omega))
    have HW6 : Hid (Fs w (((w6.setCell ⟨B, 0, none⟩ (.int .i64 (x3 : Int))).setCell ⟨B, 1, none⟩ (.int .i64 (y3 : Int))).alloc (.cells #[.int .i64 (x3 : Int), .int .i64 (y3 : Int)] 77)) F G w6.heap.size n b o c W ds (k + 1) (at_ + x) 0 v5) := by
     have h2 := zes9 ((w6.setCell ⟨B, 0, none⟩ (.int .i64 (x3 : Int))).setCell ⟨B, 1, none⟩ (.int .i64 (y3 : Int))) x3 y3
     have h3 : ((w6.setCell ⟨B, 0, none⟩ (.int .i64 (x3 : Int))).setCell ⟨B, 1, none⟩ (.int .i64 (y3 : Int))).heap.size = w6.heap.size := by simp
     rw [h3] at h2
     have := ztz9 (lits := 0) F6.out T6.out O6.out B6.out hF1 hG1 HNB.out N5.out hx3.out hy3.out ((tch2 w6 B (.int .i64 (x3 : Int)) (.int .i64 (y3 : Int))).alloc (.cells #[.int .i64 (x3 : Int), .int .i64 (y3 : Int)] 77)) (by simp only [World.size_alloc, h3, Nat.add_sub_cancel]; exact h2)
     simp only [World.size_alloc, h3, Nat.add_sub_cancel] at this
     exact this
    have HS3 : Hid ((fst_ ds W (k + 1)).1 = at_ + x /\ (fst_ ds W (k + 1)).2.1 = 0) := ⟨by rw [HST2.out], by rw [HST2.out]⟩
    have d0 := T6.out.c0
    have d1 := T6.out.c1
    have z0 := T6.out.fz 0
    have z1 := T6.out.fz 1
    clear hF6 ht6 bF bG F5 T5 O5 B5 c0 c1
    go_wp2_with fail
    exact ⟨⟨k + 1, at_ + x, 0, w6.heap.size, by omega, by omega, by omega, rfl, by push_cast; rfl, rfl, HS3, HW6⟩, by simp [intOf]; omega⟩
  ·obtain rfl : at_ = n := by omega
   have HEQ : Hid (steps ds W = (fst_ ds W k).2.2) := zqw9 ds W k (by rw [HST.out.1, HLN.out]; exact Nat.le_refl _) (by rw [<- HLN.out]; exact hka)
   go_wp2_with fail
   go_ret2
   exact ⟨_, rfl, HFS.out.bel, HFS.out.nv, by show OwnsS _ _ _; rw [HEQ.out]; exact HFS.out.own⟩
theorem zqg9 (a : Option Addr) (c : Nat) (W : Nat) (w : World) (hw1 : 1 <= W) (hw2 : W <= 65536) :
  Calls Tryz.prog 25 #[.slice a 0 c, .int .i64 W] w fun e w' => FPost (0, []) w e w' := by
 have g2 : decide ((W : Int) < 1) = false := by rw [decide_eq_false_iff_not]; omega
 have g3 : decide ((65536 : Int) < (W : Int)) = false := by rw [decide_eq_false_iff_not]; omega
 go_enter Tryz.func25, Tryz.ntmps25
 go_wp2_with fail
 refine (zdu9 _ 0 c W w (by omega)).mono ?_
 rintro e w2 ⟨F, G, rfl, hF, hb2, hF1, hG1⟩
 have B2 : Hid (Below w.heap.size w w2) := hb2
 have HB0 : Hid (Calls Tryz.prog 51 #[.pointer (some ⟨F, 0, none⟩), .int .i64 0] w2 fun e w' => e = .returned (.agg #[.int .i64 0, .int .i64 0]) /\ Below w2.heap.size w2 w') := by
  have c0 := hF.c0
  have hFl : F < w2.heap.size := hF.lt
  clear hF hb2
  go_enter Tryz.func51, Tryz.ntmps51
  go_wp2_with fail
  go_step3
  go_wp2_with fail
  rw [Exit.noGoto_ret]
  refine bodyPost_ret (v := .agg #[.int .i64 0, .int .i64 0]) ?_ rfl ⟨rfl, ((Below.refl _ _).alloc (Nat.le_refl _) _).alloc (by simp) _⟩
  refine zbm9 (p := 4) (ty := 77) rfl _ _ _ w2.heap.size _ rfl ?_
  exact ((zes9 w2 0 0).below ((Below.refl _ _).alloc (Nat.le_refl _) _)).load
 clear hF hb2
 go_wp2_with fail
 refine HB0.out.mono ?_
 clear HB0
 rintro e w3 ⟨rfl, hb3⟩
 have B3 : Hid (Below w.heap.size w w3) := B2.out.trans (hb3.mono B2.out.size)
 clear hb3 B2
 go_wp2_with fail
 go_loopw [7, 9] (fun v a wr => v = .slice none 0 0 /\ a = .int .i64 0 /\ Hid (Below w.heap.size w wr)) (fun _ _ _ => 0)
 case atStart => exact ⟨rfl, rfl, B3.out.trans (((Below.refl _ _).alloc (Nat.le_refl _) _).mono B3.out.size)⟩
 case round =>
  obtain ⟨rfl, rfl, HB⟩ := hrel
  go_wp2_with fail
  go_ret2
  exact FPost.bad HB.out
theorem zrg9 (v : Value) (ds : List Int) (win : Int) (w : World) (h : Rd .u8 w v ds) (hy : By ds) :
  Calls Tryz.prog 25 #[v, .int .i64 win] w fun e w' => FPost (findR ds win) w e w' := by
 obtain ⟨a, c, rfl, h1, h2, _, h⟩ := h
 unfold maxLen at h2
 unfold findR
 by_cases hb : 65536 < ds.length ∨ win < 1 ∨ 65536 < win
 ·rw [if_pos hb]
  exact zxu9 a _ c win w hb
 ·rw [if_neg hb]
  obtain ⟨W, rfl⟩ := Int.eq_ofNat_of_zero_le (show 0 <= win by omega)
  rw [Int.toNat_natCast]
  by_cases h0 : ds.length = 0
  ·obtain rfl : ds = [] := List.eq_nil_of_length_eq_zero h0
   exact zqg9 a c W w (by omega) (by omega)
  ·rcases h with rfl | ⟨b, o, rfl, hc⟩
   ·exact absurd rfl h0
   ·exact zsy9 ds.length b o c W ds w ⟨rfl, hy, hc⟩ (by omega) (by omega) h1 (by omega) (by omega) (by omega)
end Go.Proofs.YtobenjkacpipeaaGreat
