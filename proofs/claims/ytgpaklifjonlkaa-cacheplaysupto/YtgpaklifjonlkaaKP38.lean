import Derived.Test.YtgpaklifjonlkaaKP31
import Derived.Test.YtgpaklifjonlkaaKP24
import Derived.Test.YtgpaklifjonlkaaKP28
import Derived.Test.YtgpaklifjonlkaaKP37
import Derived.Test.YtgpaklifjonlkaaKP09
/-
  The document's Get.
-/
namespace Go.Proofs.Ytgpaklifjonlkaa
open Go.RowKit
set_option linter.unusedVariables false
set_option linter.unusedSimpArgs false
set_option maxRecDepth 100000

theorem fn_in {l : List Nat} {B : Nat → Int × List Int} {V : Nat → Value} {n : Nat} {z : Int} (h : FnH (l.map (hdk B V)) (n : Int) z) (hn : n ∈ l) : ∃ k : Nat, z = (k : Int) ∧ k < l.length ∧ (l.map (hdk B V))[k]? = some (hdk B V n) := by
  rcases h with ⟨_, h⟩ | ⟨k, x, h1, h2, h3⟩
  · exact absurd rfl (h (hdk B V n) (List.mem_map.2 ⟨n, hn, rfl⟩))
  · have hk : k < l.length := by have := (List.getElem?_eq_some_iff.1 h1).1; simpa using this
    refine ⟨k, h2, hk, ?_⟩
    rw [h1]
    rw [List.getElem?_map, List.getElem?_eq_getElem hk] at h1
    simp only [Option.map_some, Option.some.injEq] at h1
    rw [← h1] at h3 ⊢
    have e : l[k] = n := by have : ((l[k] : Nat) : Int) = (n : Int) := h3; omega
    rw [e]
theorem fn_out {l : List Nat} {B : Nat → Int × List Int} {V : Nat → Value} {n : Nat} {z : Int} (h : FnH (l.map (hdk B V)) (n : Int) z) (hn : n ∉ l) : z = -1 := by
  rcases h with ⟨h, _⟩ | ⟨k, x, h1, h2, h3⟩
  · exact h
  · have hx := List.mem_of_getElem? h1
    obtain ⟨m, hm, rfl⟩ := List.mem_map.1 hx
    have e : m = n := by have : ((m : Nat) : Int) = (n : Int) := h3; omega
    exact absurd (by rw [← e]; exact hm) hn

/-- What the document's Get tells. -/
def GotR (Y : Nat → Prop) (w : World) (q r : Nat) (s' : CS) (k : Int) (ys : List Int) (ec : Int) (e : Ending) (w' : World) : Prop :=
  ∃ u, e = .returned (.tuple #[blk k u, .int .i64 ec]) ∧ Rd .u8 w' u ys ∧ RqTo Y w w' q r s'

set_option maxHeartbeats 400000 in
theorem rget_range {Y R : Nat → Prop} {q r : Nat} {s : CS} {E : DS} (n : Int) (w : World) (hQ : Rq Y w q r s) (hR : Rf R w r E) (hl : E.L.length = 60) (hn : kthere 60 n = false) :
    Calls Try.prog 26 #[cp q, .int .i64 n] w fun e w' => GotR Y w q r s 0 [] 2 e w' := by
  obtain ⟨dv, cv, V, h⟩ := hQ
  have H : Hid (RqAt Y w q r s dv cv V) := h
  obtain ⟨W1, hW1⟩ : ∃ W1, w.alloc (.cells #[.int .i64 0, .slice none 0 0] 40) = W1 := ⟨_, rfl⟩
  have B1 : Hid (Below w.heap.size w W1) := by rw [← hW1]; exact (Below.refl _ _).alloc (Nat.le_refl _) _
  have Q1 : Hid (Bkv W1 w.heap.size 0 (.slice none 0 0)) := by rw [← hW1]; exact bkv_new w _ _
  have c0 := (h.below B1.out).c0
  obtain ⟨lb, cpp, _, _, _, _, hf⟩ := hR.below B1.out
  have d0 := hf.c0
  rw [hl] at d0
  have q0 := Q1.out.c0
  have q1 := Q1.out.c1
  have f0 := Q1.out.fz 0
  have f1 := Q1.out.fz 1
  obtain ⟨W2, hW2⟩ : ∃ W2, (W1.setCell ⟨w.heap.size, 0, none⟩ (.int .i64 0)).setCell ⟨w.heap.size, 1, none⟩ (.slice none 0 0) = W2 := ⟨_, rfl⟩
  have Q2 : Hid (Bkv W2 w.heap.size 0 (.slice none 0 0)) := by rw [← hW2]; exact Q1.out.put 0 _
  have T2 : Hid (Tch (fun j => j = w.heap.size) W1 W2) := by rw [← hW2]; exact (tch_set W1 _ 0 _).trans (tch_set _ _ 1 _) (fun _ _ e => e)
  have B2 : Hid (Below w.heap.size w W2) := B1.out.trans (T2.out.below B1.out.size (fun j e => by omega))
  have HLD := hideP Q2.out.load
  have hn2 : ¬ (50 ≤ n ∧ n < 60) := fun e => by rw [kthere_iff.2 (by simpa using e)] at hn; cases hn
  clear h hf hn
  by_cases h1 : n < 50
  · clear hn2
    go_enter Try.func26, Try.ntmps26
    go_wp2_with fail
    refine bodyPost_ret (v := .tuple #[blk 0 (.slice none 0 0), .int .i64 2]) (results_cellT (p := 4) (ty := 40) rfl _ _ _ w.heap.size _ _ rfl HLD.out rfl) rfl ?_
    exact ⟨_, rfl, (owns_nil .u8 5 _).rd, Rq.to_below ⟨_, _, _, H.out⟩ B2.out⟩
  · have h2 : decide (n < 50) = false := by rw [decide_eq_false_iff_not]; exact h1
    have h3 : n ≥ 60 := by omega
    have h4 : (60 : Int) ≤ n := by omega
    clear hn2 h1
    go_enter Try.func26, Try.ntmps26
    go_wp2_with fail
    refine bodyPost_ret (v := .tuple #[blk 0 (.slice none 0 0), .int .i64 2]) (results_cellT (p := 4) (ty := 40) rfl _ _ _ w.heap.size _ _ rfl HLD.out rfl) rfl ?_
    exact ⟨_, rfl, (owns_nil .u8 5 _).rd, Rq.to_below ⟨_, _, _, H.out⟩ B2.out⟩

set_option maxHeartbeats 400000 in
theorem rget_dirty {Y R : Nat → Prop} {q r : Nat} {s : CS} {E : DS} (n : Nat) (w : World) (hQ : Rq Y w q r s) (hR : Rf R w r E) (hl : E.L.length = 60) (hnn : 50 ≤ n ∧ n < 60) (hd : n ∈ s.d) :
    Calls Try.prog 26 #[cp q, .int .i64 (n : Int)] w fun e w' => GotR Y w q r s (s.B n).1 (s.B n).2 0 e w' := by
  obtain ⟨dv, cv, V, h⟩ := hQ
  have H : Hid (RqAt Y w q r s dv cv V) := h
  obtain ⟨W1, hW1⟩ : ∃ W1, w.alloc (.cells #[.int .i64 0, .slice none 0 0] 40) = W1 := ⟨_, rfl⟩
  have B1 : Hid (Below w.heap.size w W1) := by rw [← hW1]; exact (Below.refl _ _).alloc (Nat.le_refl _) _
  have Q1 : Hid (Bkv W1 w.heap.size 0 (.slice none 0 0)) := by rw [← hW1]; exact bkv_new w _ _
  have H1 : Hid (RqAt Y W1 q r s dv cv V) := h.below B1.out
  have c0 := H1.out.c0
  have c2 := H1.out.c2
  have c3 := H1.out.c3
  have HRF : Hid (Rf R W1 r E) := hR.below B1.out
  obtain ⟨lb, cpp, _, _, _, _, hf⟩ := id HRF.out
  have d0 := hf.c0
  rw [hl] at d0
  have g1 : decide ((n : Int) < 50) = false := by rw [decide_eq_false_iff_not]; omega
  have g2 : decide ((n : Int) ≥ 60) = false := by rw [decide_eq_false_iff_not]; omega
  have g3 : decide ((60 : Int) ≤ (n : Int)) = false := by rw [decide_eq_false_iff_not]; omega
  have g4 : decide (60 ≤ n) = false := by rw [decide_eq_false_iff_not]; omega
  have HFD := hideP (find_any dv (s.d.map (hdk s.B V)) (n : Int) W1 H1.out.dr)
  have RB : Hid (Rd .u8 W1 (V n) (s.B n).2) := H1.out.bod n (.inl hd)
  obtain ⟨k, hk⟩ : ∃ k, (s.B n).1 = k := ⟨_, rfl⟩
  obtain ⟨ys, hys⟩ : ∃ ys, (s.B n).2 = ys := ⟨_, rfl⟩
  obtain ⟨v, hv⟩ : ∃ v, V n = v := ⟨_, rfl⟩
  rw [hys, hv] at RB
  obtain ⟨a, m, cap, rfl⟩ : ∃ a m cap, v = .slice a m cap := by obtain ⟨a, c, e, _⟩ := RB.out; exact ⟨_, _, _, e⟩
  have HNW : Hid ((Value.slice a m cap).ownBlock = some w.heap.size → ys ≠ [] → False) := fun e e0 => by have := h.ylt _ (h.bq n (.inl hd) _ (by rw [hv]; exact e) (by rw [hys]; exact e0)).1; omega
  have HIN : Hid (∀ z, FnH (s.d.map (hdk s.B V)) (n : Int) z → ∃ (j : Nat), z = (j : Int) ∧ j < s.d.length ∧ (s.d.map (hdk s.B V))[j]? = some ⟨n, k, .slice a m cap⟩) := fun z hz => by
    obtain ⟨j, h1, h2, h3⟩ := fn_in hz hd
    exact ⟨j, h1, h2, by rw [h3]; unfold hdk; rw [hk, hv]⟩
  have HDR : Hid (RdH W1 dv (s.d.map (hdk s.B V))) := H1.out.dr
  obtain ⟨da, dc, hdv, hdl, hdc⟩ := H1.out.dr.len
  rw [List.length_map] at hdv hdl
  have QQ := Q1
  rw [hk, hys]
  obtain ⟨dn, hdn⟩ : ∃ dn, s.d.length = dn := ⟨_, rfl⟩
  rw [hdn] at hdv hdl HIN
  subst hdv
  have hd4 : dn ≤ 4096 := by rw [← hdn]; exact h.dl
  have q0 := QQ.out.c0
  have q1 := QQ.out.c1
  have f0 := QQ.out.fz 0
  have f1 := QQ.out.fz 1
  obtain ⟨WF, hWF⟩ : ∃ WF, (W1.setCell ⟨w.heap.size, 0, none⟩ (.int .i64 k)).setCell ⟨w.heap.size, 1, none⟩ (.slice a m cap) = WF := ⟨_, rfl⟩
  have QF : Hid (Bkv WF w.heap.size k (.slice a m cap)) := by rw [← hWF]; exact QQ.out.put k _
  have TF : Hid (Tch (fun j => j = w.heap.size) W1 WF) := by rw [← hWF]; exact (tch_set W1 _ 0 _).trans (tch_set _ _ 1 _) (fun _ _ e => e)
  have HLD := hideP QF.out.load
  have RF : Hid (Rd .u8 WF (.slice a m cap) ys) := RB.out.tch0 TF.out (fun j hj h0 e => HNW.out (by rw [← e]; exact hj) h0)
  have BF : Hid (Below w.heap.size w WF) := B1.out.trans (TF.out.below B1.out.size (fun j e => by omega))
  clear h hR hf hl hd hk hys hv HRF hdn H1
  go_enter Try.func26, Try.ntmps26
  go_wp2_with fail
  refine HFD.out.mono ?_
  rintro e w' ⟨z, rfl, hz, rfl⟩
  obtain ⟨j, rfl, hj, hxj⟩ := HIN.out z hz
  obtain ⟨b, o, rfl, hc⟩ := HDR.out.at_ hxj
  have y1 := hc.c1
  have y2 := hc.c2
  simp only at y1 y2
  have hj0 : (0 : Int) ≤ (j : Int) := by omega
  have hji : (j : Int) < (dn : Int) := by omega
  clear hz hxj hc HIN HDR HFD hW1
  go_wp2_with fail
  refine bodyPost_ret (v := .tuple #[blk k (.slice a m cap), .int .i64 0]) (results_cellT (p := 4) (ty := 40) rfl _ _ _ w.heap.size _ _ rfl HLD.out rfl) rfl ?_
  exact ⟨_, rfl, RF.out, Rq.to_below ⟨_, _, _, H.out⟩ BF.out⟩

set_option maxHeartbeats 1000000 in
theorem rget_clean {Y R : Nat → Prop} {q r : Nat} {s : CS} {E : DS} (n : Nat) (w : World) (hQ : Rq Y w q r s) (hR : Rf R w r E) (hl : E.L.length = 60) (hnn : 50 ≤ n ∧ n < 60) (hd : n ∉ s.d) (hcn : n ∈ s.c) :
    Calls Try.prog 26 #[cp q, .int .i64 (n : Int)] w fun e w' => GotR Y w q r (s.ask n (s.B n)) (s.B n).1 (s.B n).2 0 e w' := by
  obtain ⟨dv, cv, V, h⟩ := hQ
  have H : Hid (RqAt Y w q r s dv cv V) := h
  obtain ⟨W1, hW1⟩ : ∃ W1, w.alloc (.cells #[.int .i64 0, .slice none 0 0] 40) = W1 := ⟨_, rfl⟩
  have B1 : Hid (Below w.heap.size w W1) := by rw [← hW1]; exact (Below.refl _ _).alloc (Nat.le_refl _) _
  have Q1 : Hid (Bkv W1 w.heap.size 0 (.slice none 0 0)) := by rw [← hW1]; exact bkv_new w _ _
  have H1 : Hid (RqAt Y W1 q r s dv cv V) := h.below B1.out
  have c0 := H1.out.c0
  have c2 := H1.out.c2
  have c3 := H1.out.c3
  have HRF : Hid (Rf R W1 r E) := hR.below B1.out
  obtain ⟨lb, cpp, _, _, _, _, hf⟩ := id HRF.out
  have d0 := hf.c0
  rw [hl] at d0
  have g1 : decide ((n : Int) < 50) = false := by rw [decide_eq_false_iff_not]; omega
  have g2 : decide ((n : Int) ≥ 60) = false := by rw [decide_eq_false_iff_not]; omega
  have g3 : decide ((60 : Int) ≤ (n : Int)) = false := by rw [decide_eq_false_iff_not]; omega
  have g4 : decide (60 ≤ n) = false := by rw [decide_eq_false_iff_not]; omega
  have HFD := hideP (find_any dv (s.d.map (hdk s.B V)) (n : Int) W1 H1.out.dr)
  have HFC := hideP (find_any cv (s.c.map (hdk s.B V)) (n : Int) W1 H1.out.cr)
  have HOUT : Hid (∀ z, FnH (s.d.map (hdk s.B V)) (n : Int) z → z = -1) := fun z hz => fn_out hz hd
  have RB : Hid (Rd .u8 W1 (V n) (s.B n).2) := H1.out.bod n (.inr hcn)
  obtain ⟨k, hk⟩ : ∃ k, (s.B n).1 = k := ⟨_, rfl⟩
  obtain ⟨ys, hys⟩ : ∃ ys, (s.B n).2 = ys := ⟨_, rfl⟩
  obtain ⟨v, hv⟩ : ∃ v, V n = v := ⟨_, rfl⟩
  have HBN : s.B n = (k, ys) := by rw [← hk, ← hys]
  rw [hys, hv] at RB
  obtain ⟨a, m, cap, rfl⟩ : ∃ a m cap, v = .slice a m cap := by obtain ⟨a, c, e, _⟩ := RB.out; exact ⟨_, _, _, e⟩
  have HBQ : Hid (∀ j, (Value.slice a m cap).ownBlock = some j → ys ≠ [] → Y j ∧ j ≠ q) := fun j hj h0 => h.bq n (.inr hcn) j (by rw [hv]; exact hj) (by rw [hys]; exact h0)
  have HIN : Hid (∀ z, FnH (s.c.map (hdk s.B V)) (n : Int) z → ∃ (j : Nat), z = (j : Int) ∧ j < s.c.length ∧ (s.c.map (hdk s.B V))[j]? = some ⟨n, k, .slice a m cap⟩) := fun z hz => by
    obtain ⟨j, h1, h2, h3⟩ := fn_in hz hcn
    exact ⟨j, h1, h2, by rw [h3]; unfold hdk; rw [hk, hv]⟩
  have HDR : Hid (RdH W1 cv (s.c.map (hdk s.B V))) := H1.out.cr
  obtain ⟨da, dc, hdv, hdl, hdc⟩ := H1.out.cr.len
  rw [List.length_map] at hdv hdl
  rw [HBN]
  obtain ⟨dn, hdn⟩ : ∃ dn, s.c.length = dn := ⟨_, rfl⟩
  rw [hdn] at hdv hdl HIN
  subst hdv
  have hd4 : dn ≤ 1024 := by rw [← hdn]; have := h.rm1; have := h.rm2; omega
  obtain ⟨W2, hW2⟩ : ∃ W2, W1.alloc (.cells #[.int .i64 (n : Int), .int .i64 k, .slice a m cap] 85) = W2 := ⟨_, rfl⟩
  have b12 : Below W1.heap.size W1 W2 := by rw [← hW2]; exact (Below.refl _ _).alloc (Nat.le_refl _) _
  have s1 : W1.heap.size = w.heap.size + 1 := by rw [← hW1]; simp
  have B2 : Hid (Below w.heap.size w W2) := B1.out.trans (b12.mono (by omega))
  have X2 : Hid (W2.heap[W1.heap.size]? = some (.cells #[.int .i64 (n : Int), .int .i64 k, .slice a m cap] 85 (0, 0))) := by rw [← hW2]; exact heap_alloc_new W1 _
  have HS1 : Hid (W1.heap.size = w.heap.size + 1) := s1
  have HAK := hideP (ask_any n k (.slice a m cap) ys W2 (h.below B2.out) (RB.out.below b12) (by omega) HBQ.out (.inr ⟨HBN, hv⟩))
  have Q2 : Hid (Bkv W2 w.heap.size 0 (.slice none 0 0)) := Q1.out.below b12
  have p0 : W2.cell? ⟨W1.heap.size, 0, none⟩ = some (.int .i64 (n : Int)) := by rw [cell_of_row W2 W1.heap.size 0 _ _ (0, 0) X2.out]; rfl
  have p1 : W2.cell? ⟨W1.heap.size, 1, none⟩ = some (.int .i64 k) := by rw [cell_of_row W2 W1.heap.size 1 _ _ (0, 0) X2.out]; rfl
  have p2 : W2.cell? ⟨W1.heap.size, 2, none⟩ = some (.slice a m cap) := by rw [cell_of_row W2 W1.heap.size 2 _ _ (0, 0) X2.out]; rfl
  unfold hdv at HAK
  clear h hR hf hl hd hk hys hv HRF hdn H1 b12 s1 HBN hcn
  go_enter Try.func26, Try.ntmps26
  go_wp2_with fail
  refine HFD.out.mono ?_
  rintro e w' ⟨z, rfl, hz, rfl⟩
  have hz1 := HOUT.out z hz
  subst hz1
  clear hz HOUT HFD hW1
  go_wp2_with fail
  refine HFC.out.mono ?_
  rintro e w'' ⟨z, rfl, hz, rfl⟩
  obtain ⟨j, rfl, hj, hxj⟩ := HIN.out z hz
  obtain ⟨b, o, rfl, hc⟩ := HDR.out.at_ hxj
  have y0 := hc.c0
  have y1 := hc.c1
  have y2 := hc.c2
  simp only at y0 y1 y2
  have hj0 : (0 : Int) ≤ (j : Int) := by omega
  have hji : (j : Int) < (dn : Int) := by omega
  clear hz hxj hc HIN HDR HFC
  go_wp2_with fail
  refine HAK.out.mono ?_
  rintro e w3 ⟨rfl, h3, r3⟩
  have T3 : Hid (Tch (fun j => j = q) W2 w3) := by obtain ⟨_, _, t, _⟩ := h3; exact t
  have QQ : Hid (Bkv w3 w.heap.size 0 (.slice none 0 0)) := Q2.out.tch T3.out (fun e => by have := H.out.lt; omega)
  have X3 : Hid (w3.heap[w''.heap.size]? = some (.cells #[.int .i64 (n : Int), .int .i64 k, .slice a m cap] 85 (0, 0))) := by rw [T3.out.block _ (Array.getElem?_eq_some_iff.1 X2.out).1 (fun e => by have := H.out.lt; have := HS1.out; omega)]; exact X2.out
  have r1 : w3.cell? ⟨w''.heap.size, 1, none⟩ = some (.int .i64 k) := by rw [cell_of_row w3 w''.heap.size 1 _ _ (0, 0) X3.out]; rfl
  have r2 : w3.cell? ⟨w''.heap.size, 2, none⟩ = some (.slice a m cap) := by rw [cell_of_row w3 w''.heap.size 2 _ _ (0, 0) X3.out]; rfl
  have q0 := QQ.out.c0
  have q1 := QQ.out.c1
  have f0 := QQ.out.fz 0
  have f1 := QQ.out.fz 1
  obtain ⟨WF, hWF⟩ : ∃ WF, (w3.setCell ⟨w.heap.size, 0, none⟩ (.int .i64 k)).setCell ⟨w.heap.size, 1, none⟩ (.slice a m cap) = WF := ⟨_, rfl⟩
  have QF : Hid (Bkv WF w.heap.size k (.slice a m cap)) := by rw [← hWF]; exact QQ.out.put k _
  have TF : Hid (Tch (fun j => j = w.heap.size) w3 WF) := by rw [← hWF]; exact (tch_set w3 _ 0 _).trans (tch_set _ _ 1 _) (fun _ _ e => e)
  have HLD := hideP QF.out.load
  have HFI : Hid (Rd .u8 WF (.slice a m cap) ys ∧ RqTo Y w WF q r (s.ask n (k, ys))) := by
    have nw : ∀ j, Y j → ¬ j = w.heap.size := fun j hj e => by have := H.out.ylt j hj; omega
    refine ⟨r3.tch0 TF.out (fun j hj h0 => nw j (HBQ.out j hj h0).1), ?_⟩
    obtain ⟨Y3, q3, t3, y3⟩ := h3
    refine ⟨Y3, q3.tch TF.out (fun j hj e => ?_), ((Tch.of_below B2.out).trans t3 (fun _ _ e => e)).trans TF.out (fun j hj e => by omega), fun j hj => ?_⟩
    · rcases y3 j hj with e2 | e2
      · exact nw j e2 e
      · have := HS1.out; have := (Array.getElem?_eq_some_iff.1 X2.out).1; omega
    · rcases y3 j hj with e2 | e2
      · exact .inl e2
      · exact .inr (Nat.le_trans B2.out.size e2)
  clear h3 r3 HAK T3 QQ X3 X2 Q2 p0 p1 p2 y0 y1 y2 TF QF
  go_wp2_with fail
  refine bodyPost_ret (v := .tuple #[blk k (.slice a m cap), .int .i64 0]) (results_cellT (p := 4) (ty := 40) rfl _ _ _ w.heap.size _ _ rfl HLD.out rfl) rfl ?_
  exact ⟨_, rfl, HFI.out.1, HFI.out.2⟩

set_option maxHeartbeats 1000000 in
theorem rget_bad {Y R : Nat → Prop} {q r : Nat} {s : CS} {E : DS} (n : Nat) (w : World) (hQ : Rq Y w q r s) (hR : Rf R w r E) (hl : E.L.length = 60) (hnn : 50 ≤ n ∧ n < 60) (hd : n ∉ s.d) (hcn : n ∉ s.c) (hby : By (E.has n)) (hE : getE (n : Int) (E.has n) ≠ 0) :
    Calls Try.prog 26 #[cp q, .int .i64 (n : Int)] w fun e w' => GotR Y w q r s 0 [] (getE (n : Int) (E.has n)) e w' := by
  obtain ⟨dv, cv, V, h⟩ := hQ
  have H : Hid (RqAt Y w q r s dv cv V) := h
  obtain ⟨W1, hW1⟩ : ∃ W1, w.alloc (.cells #[.int .i64 0, .slice none 0 0] 40) = W1 := ⟨_, rfl⟩
  have B1 : Hid (Below w.heap.size w W1) := by rw [← hW1]; exact (Below.refl _ _).alloc (Nat.le_refl _) _
  have Q1 : Hid (Bkv W1 w.heap.size 0 (.slice none 0 0)) := by rw [← hW1]; exact bkv_new w _ _
  have H1 : Hid (RqAt Y W1 q r s dv cv V) := h.below B1.out
  have c0 := H1.out.c0
  have c2 := H1.out.c2
  have c3 := H1.out.c3
  have HRF : Hid (Rf R W1 r E) := hR.below B1.out
  obtain ⟨lb, cpp, _, _, _, _, hf⟩ := id HRF.out
  have d0 := hf.c0
  rw [hl] at d0
  have g1 : decide ((n : Int) < 50) = false := by rw [decide_eq_false_iff_not]; omega
  have g2 : decide ((n : Int) ≥ 60) = false := by rw [decide_eq_false_iff_not]; omega
  have g3 : decide ((60 : Int) ≤ (n : Int)) = false := by rw [decide_eq_false_iff_not]; omega
  have g4 : decide (60 ≤ n) = false := by rw [decide_eq_false_iff_not]; omega
  have HFD := hideP (find_any dv (s.d.map (hdk s.B V)) (n : Int) W1 H1.out.dr)
  have HFC := hideP (find_any cv (s.c.map (hdk s.B V)) (n : Int) W1 H1.out.cr)
  have HOUT : Hid (∀ z, FnH (s.d.map (hdk s.B V)) (n : Int) z → z = -1) := fun z hz => fn_out hz hd
  have HRD := hideP (refRead_all (n : Int) W1 HRF.out)
  have er1 : dco E (n : Int) = 0 := by unfold dco; rw [if_neg (by omega)]
  have er2 : dhs E (n : Int) = E.has n := by unfold dhs; rw [if_neg (by omega)]; rfl
  rw [er1, er2] at HRD
  have HBX : Hid (By (E.has n)) := hby
  have HOU2 : Hid (∀ z, FnH (s.c.map (hdk s.B V)) (n : Int) z → z = -1) := fun z hz => fn_out hz hcn
  obtain ⟨ec, hec⟩ : ∃ ec, getE (n : Int) (E.has n) = ec := ⟨_, rfl⟩
  rw [hec] at hE ⊢
  have HEC : Hid (getE (n : Int) (E.has n) = ec) := hec
  have hE1 : (ec == 0) = false := by rw [beq_eq_false_iff_ne]; exact hE
  have hE2 : (ec != 0) = true := by rw [bne, hE1]; rfl
  clear h hR hf hl hd hcn hby hec er1 er2 HRF
  go_enter Try.func26, Try.ntmps26
  go_wp2_with fail
  refine HFD.out.mono ?_
  rintro e w' ⟨z, rfl, hz, rfl⟩
  have hz1 := HOUT.out z hz
  subst hz1
  clear hz HOUT HFD hW1
  go_wp2_with fail
  refine HFC.out.mono ?_
  rintro e w'' ⟨z, rfl, hz, rfl⟩
  have hz1 := HOU2.out z hz
  subst hz1
  clear hz HOU2 HFC
  go_wp2_with fail
  refine HRD.out.mono ?_
  rintro e w2 ⟨sv, rfl, os2, b2, _⟩
  have HG := hideP (refGet_any (n : Int) sv (E.has n) w2 os2.rd HBX.out)
  have Q2 : Hid (Bkv w2 w.heap.size 0 (.slice none 0 0)) := Q1.out.below b2
  have B2 : Hid (Below w.heap.size w w2) := B1.out.trans (b2.mono B1.out.size)
  have HS2 : Hid (w.heap.size < w2.heap.size) := Q2.out.lt
  obtain ⟨sa, sm, sc, rfl⟩ : ∃ a m cap, sv = .slice a m cap := by obtain ⟨a, c, e, _⟩ := os2.rd; exact ⟨_, _, _, e⟩
  clear os2 b2 HRD
  go_wp2_with fail
  refine HG.out.mono ?_
  rintro e w3 ⟨v, rfl, hr3, hb3, hn3⟩
  have B3 : Hid (Below w.heap.size w w3) := B2.out.trans (hb3.mono B2.out.size)
  have Q3 : Hid (Bkv w3 w.heap.size 0 (.slice none 0 0)) := Q2.out.below hb3
  rw [HEC.out]
  obtain ⟨k, hk⟩ : ∃ k, (getB (n : Int) (E.has n)).1 = k := ⟨_, rfl⟩
  rw [hk]
  obtain ⟨a, m, cap, rfl⟩ : ∃ a m cap, v = .slice a m cap := by obtain ⟨a, c, e, _⟩ := hr3; exact ⟨_, _, _, e⟩
  obtain ⟨W4, hW4⟩ : ∃ W4, w3.alloc (.cells #[.int .i64 k, .slice a m cap] 40) = W4 := ⟨_, rfl⟩
  have b34 : Below w3.heap.size w3 W4 := by rw [← hW4]; exact (Below.refl _ _).alloc (Nat.le_refl _) _
  have B4 : Hid (Below w.heap.size w W4) := B3.out.trans (b34.mono B3.out.size)
  have QQ : Hid (Bkv W4 w.heap.size 0 (.slice none 0 0)) := Q3.out.below b34
  have q0 := QQ.out.c0
  have q1 := QQ.out.c1
  have f0 := QQ.out.fz 0
  have f1 := QQ.out.fz 1
  obtain ⟨WF, hWF⟩ : ∃ WF, (W4.setCell ⟨w.heap.size, 0, none⟩ (.int .i64 0)).setCell ⟨w.heap.size, 1, none⟩ (.slice none 0 0) = WF := ⟨_, rfl⟩
  have QF : Hid (Bkv WF w.heap.size 0 (.slice none 0 0)) := by rw [← hWF]; exact QQ.out.put 0 _
  have TF : Hid (Tch (fun j => j = w.heap.size) W4 WF) := by rw [← hWF]; exact (tch_set W4 _ 0 _).trans (tch_set _ _ 1 _) (fun _ _ e => e)
  have HLD := hideP QF.out.load
  have BF : Hid (Below w.heap.size w WF) := B4.out.trans (TF.out.below B4.out.size (fun j e => by omega))
  clear hr3 hb3 hn3 hk b34 HG Q2 Q3 B3 B2
  unfold blk
  go_wp2_with fail
  refine bodyPost_ret (v := .tuple #[blk 0 (.slice none 0 0), .int .i64 ec]) (results_cellT (p := 4) (ty := 40) rfl _ _ _ w.heap.size _ _ rfl HLD.out rfl) rfl ?_
  exact ⟨_, rfl, (owns_nil .u8 5 _).rd, Rq.to_below ⟨_, _, _, H.out⟩ BF.out⟩

set_option maxHeartbeats 1000000 in
theorem rget_new {Y R : Nat → Prop} {q r : Nat} {s : CS} {E : DS} (n : Nat) (w : World) (hQ : Rq Y w q r s) (hR : Rf R w r E) (hl : E.L.length = 60) (hnn : 50 ≤ n ∧ n < 60) (hd : n ∉ s.d) (hcn : n ∉ s.c) (hby : By (E.has n)) (hE : getE (n : Int) (E.has n) = 0) :
    Calls Try.prog 26 #[cp q, .int .i64 (n : Int)] w fun e w' => GotR Y w q r (s.ask n (getB (n : Int) (E.has n))) (getB (n : Int) (E.has n)).1 (getB (n : Int) (E.has n)).2 0 e w' := by
  obtain ⟨dv, cv, V, h⟩ := hQ
  have H : Hid (RqAt Y w q r s dv cv V) := h
  obtain ⟨W1, hW1⟩ : ∃ W1, w.alloc (.cells #[.int .i64 0, .slice none 0 0] 40) = W1 := ⟨_, rfl⟩
  have B1 : Hid (Below w.heap.size w W1) := by rw [← hW1]; exact (Below.refl _ _).alloc (Nat.le_refl _) _
  have Q1 : Hid (Bkv W1 w.heap.size 0 (.slice none 0 0)) := by rw [← hW1]; exact bkv_new w _ _
  have H1 : Hid (RqAt Y W1 q r s dv cv V) := h.below B1.out
  have c0 := H1.out.c0
  have c2 := H1.out.c2
  have c3 := H1.out.c3
  have HRF : Hid (Rf R W1 r E) := hR.below B1.out
  obtain ⟨lb, cpp, _, _, _, _, hf⟩ := id HRF.out
  have d0 := hf.c0
  rw [hl] at d0
  have g1 : decide ((n : Int) < 50) = false := by rw [decide_eq_false_iff_not]; omega
  have g2 : decide ((n : Int) ≥ 60) = false := by rw [decide_eq_false_iff_not]; omega
  have g3 : decide ((60 : Int) ≤ (n : Int)) = false := by rw [decide_eq_false_iff_not]; omega
  have g4 : decide (60 ≤ n) = false := by rw [decide_eq_false_iff_not]; omega
  have HFD := hideP (find_any dv (s.d.map (hdk s.B V)) (n : Int) W1 H1.out.dr)
  have HFC := hideP (find_any cv (s.c.map (hdk s.B V)) (n : Int) W1 H1.out.cr)
  have HOUT : Hid (∀ z, FnH (s.d.map (hdk s.B V)) (n : Int) z → z = -1) := fun z hz => fn_out hz hd
  have HRD := hideP (refRead_all (n : Int) W1 HRF.out)
  have er1 : dco E (n : Int) = 0 := by unfold dco; rw [if_neg (by omega)]
  have er2 : dhs E (n : Int) = E.has n := by unfold dhs; rw [if_neg (by omega)]; rfl
  rw [er1, er2] at HRD
  have HBX : Hid (By (E.has n)) := hby
  have HOU2 : Hid (∀ z, FnH (s.c.map (hdk s.B V)) (n : Int) z → z = -1) := fun z hz => fn_out hz hcn
  obtain ⟨x, hx⟩ : ∃ x, getB (n : Int) (E.has n) = x := ⟨_, rfl⟩
  obtain ⟨k, ys⟩ := x
  rw [hx]
  have HEC : Hid (getE (n : Int) (E.has n) = 0 ∧ getB (n : Int) (E.has n) = (k, ys)) := ⟨hE, hx⟩
  have HND : Hid (n ∉ s.d ∧ n < 4096) := ⟨hd, by omega⟩
  clear h hR hf hl hd hcn hby hx hE er1 er2 HRF
  go_enter Try.func26, Try.ntmps26
  go_wp2_with fail
  refine HFD.out.mono ?_
  rintro e w' ⟨z, rfl, hz, rfl⟩
  have hz1 := HOUT.out z hz
  subst hz1
  clear hz HOUT HFD hW1
  go_wp2_with fail
  refine HFC.out.mono ?_
  rintro e w'' ⟨z, rfl, hz, rfl⟩
  have hz1 := HOU2.out z hz
  subst hz1
  clear hz HOU2 HFC
  go_wp2_with fail
  refine HRD.out.mono ?_
  rintro e w2 ⟨sv, rfl, os2, b2, _⟩
  have HG := hideP (refGet_any (n : Int) sv (E.has n) w2 os2.rd HBX.out)
  have Q2 : Hid (Bkv w2 w.heap.size 0 (.slice none 0 0)) := Q1.out.below b2
  have B2 : Hid (Below w.heap.size w w2) := B1.out.trans (b2.mono B1.out.size)
  have HS2 : Hid (w.heap.size < w2.heap.size) := Q2.out.lt
  obtain ⟨sa, sm, sc, rfl⟩ : ∃ a m cap, sv = .slice a m cap := by obtain ⟨a, c, e, _⟩ := os2.rd; exact ⟨_, _, _, e⟩
  clear os2 b2 HRD
  go_wp2_with fail
  refine HG.out.mono ?_
  rintro e w3 ⟨v, rfl, hr3, hb3, hn3⟩
  have B3 : Hid (Below w.heap.size w w3) := B2.out.trans (hb3.mono B2.out.size)
  have Q3 : Hid (Bkv w3 w.heap.size 0 (.slice none 0 0)) := Q2.out.below hb3
  rw [HEC.out.1, HEC.out.2] at *
  have hr3 : Rd .u8 w3 v ys := hr3
  obtain ⟨a, m, cap, rfl⟩ : ∃ a m cap, v = .slice a m cap := by obtain ⟨a, c, e, _⟩ := hr3; exact ⟨_, _, _, e⟩
  obtain ⟨W4, hW4⟩ : ∃ W4, w3.alloc (.cells #[.int .i64 k, .slice a m cap] 40) = W4 := ⟨_, rfl⟩
  have b34 : Below w3.heap.size w3 W4 := by rw [← hW4]; exact (Below.refl _ _).alloc (Nat.le_refl _) _
  have B4 : Hid (Below w.heap.size w W4) := B3.out.trans (b34.mono B3.out.size)
  have Q4 : Hid (Bkv W4 w.heap.size 0 (.slice none 0 0)) := Q3.out.below b34
  have G4 : Hid (Bkv W4 w3.heap.size k (.slice a m cap)) := by rw [← hW4]; exact bkv_new w3 _ _
  have R4 : Hid (Rd .u8 W4 (.slice a m cap) ys) := hr3.below b34
  have N3 : Hid (∀ j, (Value.slice a m cap).ownBlock = some j → w.heap.size < j) := fun j hj => by have := hn3 j hj; have := HS2.out; omega
  obtain ⟨Y', hY'⟩ : ∃ Y' : Nat → Prop, (fun j => Y j ∨ ((Value.slice a m cap).ownBlock = some j ∧ ys ≠ [])) = Y' := ⟨_, rfl⟩
  have H4 : Hid (RqAt Y' W4 q r s dv cv V) := by
    have h4 := H.out.below B4.out
    rw [← hY']
    exact { h4 with
      dq := fun j hj h0 => ⟨.inl (h4.dq j hj h0).1, (h4.dq j hj h0).2⟩
      cq := fun j hj h0 => ⟨.inl (h4.cq j hj h0).1, (h4.cq j hj h0).2⟩
      bq := fun i hi j hj h0 => ⟨.inl (h4.bq i hi j hj h0).1, (h4.bq i hi j hj h0).2⟩
      yq := .inl h4.yq
      ylt := fun j hj => by
        rcases hj with e | ⟨e, e0⟩
        · exact h4.ylt j e
        · exact R4.out.blk_lt e0 e }
  have HY : Hid ((∀ j, Y' j → Y j ∨ w.heap.size < j) ∧ ∀ j, (Value.slice a m cap).ownBlock = some j → ys ≠ [] → Y' j ∧ j ≠ q) := by
    rw [← hY']
    exact ⟨fun j hj => hj.imp id (fun e => N3.out j e.1), fun j hj h0 => ⟨.inr ⟨hj, h0⟩, by have := N3.out j hj; have := H.out.lt; omega⟩⟩
  have HAK := hideP (ask_any n k (.slice a m cap) ys W4 H4.out R4.out HND.out.2 HY.out.2 (.inl HND.out.1))
  have y0 := G4.out.c0
  have y1 := G4.out.c1
  have HZ4 : Hid (w.heap.size < w3.heap.size) := Q3.out.lt
  unfold hdv at HAK
  clear hr3 hb3 hn3 b34 HG Q2 Q3 B3 B2 hY'
  unfold blk
  go_wp2_with fail
  refine HAK.out.mono ?_
  rintro e w5 ⟨rfl, h5, r5⟩
  have T5 : Hid (Tch (fun j => j = q) W4 w5) := by obtain ⟨_, _, t, _⟩ := h5; exact t
  have QQ : Hid (Bkv w5 w.heap.size 0 (.slice none 0 0)) := Q4.out.tch T5.out (fun e => by have := H.out.lt; omega)
  have G5 : Hid (Bkv w5 w3.heap.size k (.slice a m cap)) := G4.out.tch T5.out (fun e => by have := H.out.lt; have := HZ4.out; omega)
  have r1 := G5.out.c0
  have r2 := G5.out.c1
  have q0 := QQ.out.c0
  have q1 := QQ.out.c1
  have f0 := QQ.out.fz 0
  have f1 := QQ.out.fz 1
  obtain ⟨WF, hWF⟩ : ∃ WF, (w5.setCell ⟨w.heap.size, 0, none⟩ (.int .i64 k)).setCell ⟨w.heap.size, 1, none⟩ (.slice a m cap) = WF := ⟨_, rfl⟩
  have QF : Hid (Bkv WF w.heap.size k (.slice a m cap)) := by rw [← hWF]; exact QQ.out.put k _
  have TF : Hid (Tch (fun j => j = w.heap.size) w5 WF) := by rw [← hWF]; exact (tch_set w5 _ 0 _).trans (tch_set _ _ 1 _) (fun _ _ e => e)
  have HLD := hideP QF.out.load
  have HFI : Hid (Rd .u8 WF (.slice a m cap) ys ∧ RqTo Y w WF q r (s.ask n (k, ys))) := by
    have nw : ∀ j, Y' j → ¬ j = w.heap.size := fun j hj e => by
      rcases HY.out.1 j hj with e2 | e2
      · have := H.out.ylt j e2; omega
      · omega
    refine ⟨r5.tch0 TF.out (fun j hj h0 => nw j (HY.out.2 j hj h0).1), ?_⟩
    obtain ⟨Y5, q5, t5, y5⟩ := h5
    refine ⟨Y5, q5.tch TF.out (fun j hj e => ?_), ((Tch.of_below B4.out).trans t5 (fun _ _ e => e)).trans TF.out (fun j hj e => by omega), fun j hj => ?_⟩
    · rcases y5 j hj with e2 | e2
      · exact nw j e2 e
      · have := HZ4.out; have := G4.out.lt; omega
    · rcases y5 j hj with e2 | e2
      · exact (HY.out.1 j e2).imp id Nat.le_of_lt
      · exact .inr (Nat.le_trans B4.out.size e2)
  clear h5 r5 HAK T5 QQ G5 G4 Q4 y0 y1 TF QF hW4
  go_wp2_with fail
  refine bodyPost_ret (v := .tuple #[blk k (.slice a m cap), .int .i64 0]) (results_cellT (p := 4) (ty := 40) rfl _ _ _ w.heap.size _ _ rfl HLD.out rfl) rfl ?_
  exact ⟨_, rfl, HFI.out.1, HFI.out.2⟩

/-- The document's Get, for whatever is asked. -/
theorem rget_any {Y R : Nat → Prop} {q r : Nat} {s : CS} {E : DS} (n : Int) (w : World) (hQ : Rq Y w q r s) (hR : Rf R w r E) (hl : E.L.length = 60) (hby : ∀ i, i < 60 → By (E.has i)) :
    Calls Try.prog 26 #[cp q, .int .i64 n] w fun e w' => GotR Y w q r (s.getS E n) (s.getB E n).1 (s.getB E n).2 (s.getE E n) e w' := by
  cases h1 : kthere 60 n with
  | false =>
    have e1 : s.getE E n = 2 := by unfold CS.getE; rw [hl, h1]; rfl
    have e2 : s.getB E n = (0, []) := by unfold CS.getB; rw [hl, h1]; rfl
    have e3 : s.getS E n = s := by unfold CS.getS; rw [e1]; rfl
    rw [e1, e2, e3]
    exact rget_range n w hQ hR hl h1
  | true =>
    obtain ⟨i, rfl⟩ : ∃ i : Nat, n = (i : Int) := ⟨n.toNat, by have := (kthere_iff.1 h1).1; omega⟩
    have hi := kthere_iff.1 h1
    by_cases hd : i ∈ s.d
    · have e1 : s.getE E (i : Int) = 0 := by unfold CS.getE; rw [hl, h1, if_pos rfl, if_pos (.inl hd)]
      have e2 : s.getB E (i : Int) = s.B i := by unfold CS.getB; rw [hl, h1, if_pos rfl, if_pos (.inl hd)]; rfl
      have e3 : s.getS E (i : Int) = s := by unfold CS.getS; rw [if_neg (fun e => e.2 hd)]
      rw [e1, e2, e3]
      exact rget_dirty i w hQ hR hl (by omega) hd
    · by_cases hc : i ∈ s.c
      · have e1 : s.getE E (i : Int) = 0 := by unfold CS.getE; rw [hl, h1, if_pos rfl, if_pos (.inr hc)]
        have e2 : s.getB E (i : Int) = s.B i := by unfold CS.getB; rw [hl, h1, if_pos rfl, if_pos (.inr hc)]; rfl
        have e3 : s.getS E (i : Int) = s.ask i (s.B i) := by unfold CS.getS; rw [if_pos ⟨e1, hd⟩, e2]; exact (ask_keep hd _).symm
        rw [e1, e2, e3]
        exact rget_clean i w hQ hR hl (by omega) hd hc
      · have e1 : s.getE E (i : Int) = getE (i : Int) (E.has i) := by unfold CS.getE; rw [hl, h1, if_pos rfl, if_neg (fun e => e.elim hd hc)]; rfl
        have e2 : s.getB E (i : Int) = getB (i : Int) (E.has i) := by unfold CS.getB; rw [hl, h1, if_pos rfl, if_neg (fun e => e.elim hd hc)]; rfl
        by_cases he : getE (i : Int) (E.has i) = 0
        · have e3 : s.getS E (i : Int) = s.ask i (getB (i : Int) (E.has i)) := by unfold CS.getS; rw [if_pos ⟨e1.trans he, hd⟩, e2]; exact (ask_keep hd _).symm
          rw [e1, e2, e3, he]
          exact rget_new i w hQ hR hl (by omega) hd hc (hby i (by omega)) he
        · have e3 : s.getS E (i : Int) = s := by unfold CS.getS; rw [if_neg (fun e => he (e1.symm.trans e.1))]
          have e4 : getB (i : Int) (E.has i) = (0, []) := by unfold getB; rw [if_neg he]
          rw [e1, e2, e3, e4]
          exact rget_bad i w hQ hR hl (by omega) hd hc (hby i (by omega)) he
end Go.Proofs.Ytgpaklifjonlkaa
/-
  The document's Put.
-/
namespace Go.Proofs.Ytgpaklifjonlkaa
open Go.RowKit
set_option linter.unusedVariables false
set_option linter.unusedSimpArgs false
set_option maxRecDepth 100000

theorem rput_code (n k : Int) (v : Value) (ys : List Int) (w : World) (hr : Rd .u8 w v ys) (hb : By ys) :
    Calls Try.prog 25 #[.int .i64 n, blk k v] w fun e w' => ∃ a m cap, e = .returned (.tuple #[.slice a m cap, .int .i64 (if mayK n k ys.length = true then 0 else 1)]) ∧ Below w.heap.size w w' ∧ (mayK n k ys.length = true → Rd .u8 w' (.slice a m cap) (sec n k ys) ∧ ∀ j, (Value.slice a m cap).ownBlock = some j → w.heap.size ≤ j) := by
  cases h : mayK n k ys.length with
  | true =>
    refine (refPutB_new n k v ys w hr hb h).mono ?_
    rintro e w' ⟨u, rfl, h1, h2, h3⟩
    obtain ⟨a, m, cap, rfl⟩ : ∃ a m cap, u = .slice a m cap := by obtain ⟨a, c, e, _⟩ := h1; exact ⟨_, _, _, e⟩
    exact ⟨_, _, _, rfl, h2, fun _ => ⟨h1, h3⟩⟩
  | false =>
    obtain ⟨a, cap, rfl, h1, h2, _⟩ := id hr
    refine (refPutB_bad n k a ys.length cap w (by unfold maxLen at h2; omega) h).mono ?_
    rintro e w' ⟨rfl, h2⟩
    exact ⟨_, _, _, rfl, h2, fun e => by cases e⟩

/-- A rising list is parted where a number goes. -/
theorem rising_parts {l : List Nat} {n i : Nat} (h : l.Pairwise (fun a b => a < b)) (hn : n ∉ l) (hi : i ≤ l.length) (h1 : ∀ j x, j < i → l[j]? = some x → x < n) (h2 : ∀ x, l[i]? = some x → n ≤ x) :
    l.take i = l.filter (fun m => decide (m < n)) ∧ l.drop i = l.filter (fun m => decide (n < m)) := by
  have t1 : ∀ m, m ∈ l.take i → m < n := fun m hm => by
    obtain ⟨j, hj, rfl⟩ := List.getElem_of_mem hm
    have hj' : j < i := by rw [List.length_take] at hj; omega
    refine h1 j _ hj' ?_
    rw [List.getElem_take]
    exact List.getElem?_eq_getElem (by omega)
  have t2 : ∀ m, m ∈ l.drop i → n < m := fun m hm => by
    obtain ⟨j, hj, rfl⟩ := List.getElem_of_mem hm
    rw [List.length_drop] at hj
    rw [List.getElem_drop]
    have h0 := h2 l[i] (List.getElem?_eq_getElem (by omega))
    have hle : l[i] ≤ l[i + j] := by
      by_cases e : j = 0
      · subst e; exact Nat.le_refl _
      · exact Nat.le_of_lt (List.pairwise_iff_getElem.1 h i (i + j) (by omega) (by omega) (by omega))
    have hne : l[i + j] ≠ n := fun e => hn (by rw [← e]; exact List.getElem_mem (by omega))
    omega
  have e1 : (l.take i).filter (fun m => decide (m < n)) = l.take i := List.filter_eq_self.2 (fun m hm => by simpa using t1 m hm)
  have e2 : (l.drop i).filter (fun m => decide (m < n)) = [] := List.filter_eq_nil_iff.2 (fun m hm => by have := t2 m hm; simp; omega)
  have e3 : (l.take i).filter (fun m => decide (n < m)) = [] := List.filter_eq_nil_iff.2 (fun m hm => by have := t1 m hm; simp; omega)
  have e4 : (l.drop i).filter (fun m => decide (n < m)) = l.drop i := List.filter_eq_self.2 (fun m hm => by simpa using t2 m hm)
  constructor
  · conv => rhs; rw [← List.take_append_drop i l, List.filter_append, e1, e2, List.append_nil]
  · conv => rhs; rw [← List.take_append_drop i l, List.filter_append, e3, e4, List.nil_append]
theorem kwo_lt (l : List Nat) (n : Nat) : (kwo l n).filter (fun m => decide (m < n)) = l.filter (fun m => decide (m < n)) ∧ (kwo l n).filter (fun m => decide (n < m)) = l.filter (fun m => decide (n < m)) := by
  unfold kwo
  rw [List.filter_filter, List.filter_filter]
  constructor
  · refine List.filter_congr fun m _ => ?_
    by_cases e : m < n
    · have : (m : Int) ≠ (n : Int) := by omega
      simp [e, this]
    · simp [e]
  · refine List.filter_congr fun m _ => ?_
    by_cases e : n < m
    · have : (m : Int) ≠ (n : Int) := by omega
      simp [e, this]
    · simp [e]
theorem kins_parts {l : List Nat} {n i : Nat} (h : l.Pairwise (fun a b => a < b)) (hi : i ≤ (kwo l n).length) (h1 : ∀ j x, j < i → (kwo l n)[j]? = some x → x < n) (h2 : ∀ x, (kwo l n)[i]? = some x → n ≤ x) :
    kins l n = (kwo l n).take i ++ n :: (kwo l n).drop i := by
  obtain ⟨e1, e2⟩ := rising_parts (kwo_rising n h) (fun e => (kwo_mem.1 e).2 rfl) hi h1 h2
  rw [e1, e2, (kwo_lt l n).1, (kwo_lt l n).2]
  rfl

set_option maxHeartbeats 400000 in
theorem rput_bad {Y R : Nat → Prop} {q r : Nat} {s : CS} {E : DS} (n k : Int) (v : Value) (ys : List Int) (w : World) (hQ : Rq Y w q r s) (hR : Rf R w r E) (hl : E.L.length = 60) (hr : Rd .u8 w v ys) (hb : By ys) (hn : kthere 60 n = false ∨ mayK n k ys.length = false) :
    Calls Try.prog 27 #[cp q, .int .i64 n, blk k v] w fun e w' => e = .returned (.int .i64 (if kthere 60 n = true then 1 else 2)) ∧ RqTo Y w w' q r s := by
  obtain ⟨dv, cv, V, h⟩ := hQ
  have H : Hid (RqAt Y w q r s dv cv V) := h
  obtain ⟨W1, hW1⟩ : ∃ W1, w.alloc (.cells #[.int .i64 k, v] 40) = W1 := ⟨_, rfl⟩
  have B1 : Hid (Below w.heap.size w W1) := by rw [← hW1]; exact (Below.refl _ _).alloc (Nat.le_refl _) _
  have Q1 : Hid (Bkv W1 w.heap.size k v) := by rw [← hW1]; exact bkv_new w _ _
  have c0 := (h.below B1.out).c0
  obtain ⟨lb, cpp, _, _, _, _, hf⟩ := hR.below B1.out
  have d0 := hf.c0
  rw [hl] at d0
  have HRC := hideP (rput_code n k v ys W1 (hr.below B1.out) hb)
  have q0 := Q1.out.c0
  have q1 := Q1.out.c1
  obtain ⟨a, m, cap, rfl⟩ : ∃ a m cap, v = .slice a m cap := by obtain ⟨a, c, e, _⟩ := hr; exact ⟨_, _, _, e⟩
  clear h hf hr
  cases h1 : kthere 60 n with
  | false =>
    have hn2 : ¬ (50 ≤ n ∧ n < 60) := fun e => by rw [kthere_iff.2 (by simpa using e)] at h1; cases h1
    simp only [Bool.false_eq_true, if_false]
    unfold blk
    clear hn h1
    by_cases h1 : n < 50
    · clear hn2
      go_enter Try.func27, Try.ntmps27
      go_wp2_with fail
      go_ret
      exact ⟨rfl, Rq.to_below ⟨_, _, _, H.out⟩ B1.out⟩
    · have h2 : decide (n < 50) = false := by rw [decide_eq_false_iff_not]; exact h1
      have h3 : n ≥ 60 := by omega
      have h4 : (60 : Int) ≤ n := by omega
      clear hn2 h1
      go_enter Try.func27, Try.ntmps27
      go_wp2_with fail
      go_ret
      exact ⟨rfl, Rq.to_below ⟨_, _, _, H.out⟩ B1.out⟩
  | true =>
    have hm : mayK n k ys.length = false := hn.resolve_left (by rw [h1]; simp)
    have hi := kthere_iff.1 h1
    have g1 : decide (n < 50) = false := by rw [decide_eq_false_iff_not]; omega
    have g2 : decide (n ≥ 60) = false := by rw [decide_eq_false_iff_not]; omega
    have g3 : decide ((60 : Int) ≤ n) = false := by rw [decide_eq_false_iff_not]; omega
    rw [hm] at HRC
    simp only [Bool.false_eq_true, if_false, if_true] at HRC ⊢
    unfold blk at HRC ⊢
    clear hn h1 hm hi
    go_enter Try.func27, Try.ntmps27
    go_wp2_with fail
    refine HRC.out.mono ?_
    rintro e w2 ⟨sa, sm, sc, rfl, hb2, _⟩
    have B2 : Hid (Below w.heap.size w w2) := B1.out.trans (hb2.mono B1.out.size)
    clear hb2 HRC
    go_wp2_with fail
    go_ret
    exact ⟨rfl, Rq.to_below ⟨_, _, _, H.out⟩ B2.out⟩

theorem infH3 : (Try.prog.info? 85).map (·.size) = some 3 := by kernel_rfl
set_option maxHeartbeats 2000000 in
theorem rput_ok {Y R : Nat → Prop} {q r : Nat} {s : CS} {E : DS} (n : Nat) (k : Int) (v : Value) (ys : List Int) (w : World) (hQ : Rq Y w q r s) (hR : Rf R w r E) (hl : E.L.length = 60) (ho : COk 60 s) (hr : Rd .u8 w v ys) (hb : By ys) (hv : ∀ j, v.ownBlock = some j → ys ≠ [] → j ≠ q) (hn : 50 ≤ n ∧ n < 60) (hm : mayK (n : Int) k ys.length = true) :
    Calls Try.prog 27 #[cp q, .int .i64 (n : Int), blk k v] w fun e w' => e = .returned (.int .i64 0) ∧ RqTo Y w w' q r (s.lay n (k, ys)) := by
  obtain ⟨dv, cv, V, h⟩ := hQ
  have H : Hid (RqAt Y w q r s dv cv V) := h
  have HOK : Hid (COk 60 s ∧ COk 60 (s.lay n (k, ys))) := ⟨ho, ho.lay hn hm hb⟩
  obtain ⟨W1, hW1⟩ : ∃ W1, w.alloc (.cells #[.int .i64 k, v] 40) = W1 := ⟨_, rfl⟩
  have B1 : Hid (Below w.heap.size w W1) := by rw [← hW1]; exact (Below.refl _ _).alloc (Nat.le_refl _) _
  have Q1 : Hid (Bkv W1 w.heap.size k v) := by rw [← hW1]; exact bkv_new w _ _
  have H1 : Hid (RqAt Y W1 q r s dv cv V) := h.below B1.out
  have c0 := H1.out.c0
  obtain ⟨lb, cpp, _, _, _, _, hf⟩ := hR.below B1.out
  have d0 := hf.c0
  rw [hl] at d0
  have HRC := hideP (rput_code (n : Int) k v ys W1 (hr.below B1.out) hb)
  rw [hm] at HRC
  simp only [if_true] at HRC
  have HR1 : Hid (Rd .u8 W1 v ys) := hr.below B1.out
  have HNQ : Hid (∀ j, v.ownBlock = some j → ys ≠ [] → j ≠ q) := hv
  have HYL : Hid (ys.length ≤ 240) := (mayK_iff.1 hm).2.2.2.2
  have q0 := Q1.out.c0
  have q1 := Q1.out.c1
  obtain ⟨a, m, cap, rfl⟩ : ∃ a m cap, v = .slice a m cap := by obtain ⟨a, c, e, _⟩ := hr; exact ⟨_, _, _, e⟩
  have g1 : decide ((n : Int) < 50) = false := by rw [decide_eq_false_iff_not]; omega
  have g2 : decide ((n : Int) ≥ 60) = false := by rw [decide_eq_false_iff_not]; omega
  have g3 : decide ((60 : Int) ≤ (n : Int)) = false := by rw [decide_eq_false_iff_not]; omega
  have g4 : decide (60 ≤ n) = false := by rw [decide_eq_false_iff_not]; omega
  clear h hf hr hb hv hm ho
  unfold blk at HRC ⊢
  go_enter Try.func27, Try.ntmps27
  go_wp2_with fail
  refine HRC.out.mono ?_
  rintro e w2 ⟨sa, sm, sc, rfl, hb2, _⟩
  have B2 : Hid (Below w.heap.size w w2) := B1.out.trans (hb2.mono B1.out.size)
  have Q2 : Hid (Bkv w2 w.heap.size k (.slice a m cap)) := Q1.out.below hb2
  have R2 : Hid (Rd .u8 w2 (.slice a m cap) ys) := HR1.out.below hb2
  have HFO := hideP (rforget_any (n : Int) w2 (show Rq Y w2 q r s from ⟨_, _, _, H.out.below B2.out⟩))
  clear hb2 HRC c0 d0 q0 q1 hW1 g1 g2 g3 g4 Q1 HR1 H1
  go_wp2_with fail
  refine HFO.out.mono ?_
  rintro e w3 ⟨rfl, Y3, ⟨dv3, cv3, V3, h3⟩, t3, hy3⟩
  have H3 : Hid (RqAt Y3 w3 q r (s.forget n) dv3 cv3 V3) := h3
  have T3 : Hid (Tch (fun k => k = q) w w3 ∧ ∀ k, Y3 k → Y k ∨ w.heap.size ≤ k) := ⟨(Tch.of_below B2.out).trans t3 (fun _ _ e => e), fun k hk => (hy3 k hk).imp id (fun e => Nat.le_trans B2.out.size e)⟩
  have Q3 : Hid (Bkv w3 w.heap.size k (.slice a m cap)) := Q2.out.tch t3 (fun e => by have := H.out.lt; omega)
  have R3 : Hid (Rd .u8 w3 (.slice a m cap) ys) := R2.out.tch0 t3 (fun j hj h0 e => HNQ.out j hj h0 e)
  obtain ⟨W4, hW4⟩ : ∃ W4, w3.alloc (.cells #[.int .i64 (n : Int), .int .i64 k, .slice none 0 0] 85) = W4 := ⟨_, rfl⟩
  obtain ⟨g, hg⟩ : ∃ g, w3.heap.size = g := ⟨_, rfl⟩
  have b34 : Below w3.heap.size w3 W4 := by rw [← hW4]; exact (Below.refl _ _).alloc (Nat.le_refl _) _
  have X4 : Hid (W4.heap[g]? = some (.cells #[.int .i64 (n : Int), .int .i64 k, .slice none 0 0] 85 (0, 0))) := by rw [← hW4, ← hg]; exact heap_alloc_new w3 _
  have HG : Hid (w3.heap.size = g) := hg
  have R4 : Hid (Rd .u8 W4 (.slice a m cap) ys) := R3.out.below b34
  have B34 : Hid (Below w3.heap.size w3 W4) := b34
  have z0 := Q3.out.c0
  have z1 := (Q3.out.below b34).c1
  have x2 : W4.cell? ⟨g, 2, none⟩ = some (.slice none 0 0) := by rw [cell_of_row W4 g 2 _ _ (0, 0) X4.out]; rfl
  have HW4 : Hid (w3.alloc (.cells #[.int .i64 (n : Int), .int .i64 k, .slice none 0 0] 85) = W4) := hW4
  clear h3 t3 hy3 HFO Q2 R2 b34 hW4 hg
  have z2 : (w3.alloc (.cells #[.int .i64 (n : Int), .int .i64 k, .slice none 0 0] 85)).cell? ⟨w.heap.size, 1, none⟩ = some (.slice a m cap) := by rw [HW4.out]; exact z1
  clear z1
  go_wp2_with (at_builtin; rw [HW4.out]; rw [HG.out]; refine wpList_many _ rfl (.tmp 45) (.tmp 47) 38 rfl 5 .u8 1 elem8 (.slice none 0 0) [] rfl (owns_nil _ _ _) _ ys rfl R4.out (by have := HYL.out; simp; omega) (by have := HYL.out; simp; omega) ?_)
  intro u w5 o5 g5
  obtain ⟨be5, nu5⟩ := g5.below
  have X5 : Hid (w5.heap[g]? = some (.cells #[.int .i64 (n : Int), .int .i64 k, .slice none 0 0] 85 (0, 0))) := by rw [be5.block g (Array.getElem?_eq_some_iff.1 X4.out).1]; exact X4.out
  have B35 : Hid (Below w3.heap.size w3 w5) := B34.out.trans (be5.mono B34.out.size)
  have U5 : Hid (Rd .u8 w5 u ys) := o5.rd
  have NU : Hid (∀ j, u.ownBlock = some j → g < j) := fun j hj => by have h1 := nu5 j hj; have h2 := (Array.getElem?_eq_some_iff.1 X4.out).1; omega
  obtain ⟨ua, um, uc, rfl⟩ : ∃ a m cap, u = .slice a m cap := by obtain ⟨a, c, e, _⟩ := o5.rd; exact ⟨_, _, _, e⟩
  have x2' : w5.cell? ⟨g, 2, none⟩ = some (.slice none 0 0) := by rw [cell_of_row w5 g 2 _ _ (0, 0) X5.out]; rfl
  have f2' : w5.frozen? ⟨g, 2, none⟩ = false := frozen_of_row w5 g 2 _ _ X5.out
  obtain ⟨W6, hW6⟩ : ∃ W6, w5.setCell ⟨g, 2, none⟩ (.slice ua um uc) = W6 := ⟨_, rfl⟩
  have T6 : Hid (Tch (fun j => j = g) w5 W6) := by rw [← hW6]; exact tch_set w5 g 2 _
  have X6 : Hid (W6.heap[g]? = some (.cells #[.int .i64 (n : Int), .int .i64 k, .slice ua um uc] 85 (0, 0))) := by rw [← hW6, heap_setCell_same w5 g 2 _ _ _ X5.out]; rfl
  have B36 : Hid (Below w3.heap.size w3 W6) := B35.out.trans (T6.out.below B35.out.size (fun j e => by have := HG.out; omega))
  have U6 : Hid (Rd .u8 W6 (.slice ua um uc) ys) := U5.out.tch T6.out (fun j hj e => by have := NU.out j hj; omega)
  have H6 : Hid (RqAt Y3 W6 q r (s.forget n) dv3 cv3 V3) := H3.out.below B36.out
  obtain ⟨ps, hps⟩ : ∃ ps, (kwo s.d n).map (hdk s.B V3) = ps := ⟨_, rfl⟩
  have HPS : Hid ((kwo s.d n).map (hdk s.B V3) = ps) := hps
  have HDR : Hid (∀ W, Below W6.heap.size W6 W → RdH W dv3 ps) := fun W hb => by
    have := (H6.out.below hb).dr
    rw [← HPS.out]
    exact this
  obtain ⟨da, dc, hdv, hdl, hdc⟩ := (HDR.out W6 (Below.refl _ _)).len
  obtain ⟨L, hL⟩ : ∃ L, ps.length = L := ⟨_, rfl⟩
  rw [hL] at hdv hdl
  have HL : Hid (ps.length = L) := hL
  have hL60 : L ≤ 60 := by rw [← hL, ← hps, List.length_map]; exact Nat.le_trans (kwo_len _ _) HOK.out.1.dle
  have HSV : Hid (∀ x, x ∈ ps → Slv x.v) := fun x hx => by
    rw [← HPS.out] at hx
    obtain ⟨j, hj, rfl⟩ := List.mem_map.1 hx
    exact H3.out.slv (.inl hj)
  subst hdv
  have HC2 : Hid (∀ W, Below W6.heap.size W6 W → W.cell? ⟨q, 2, none⟩ = some (.slice da L dc)) := fun W hb => (H6.out.below hb).c2
  clear o5 g5 be5 nu5 R4 z0 z2 x2 hps hL X5 U5 B34 B35 X4
  go_wp2_with fail
  go_loopw [10, 11] (fun ov iv wr => ∃ (i : Nat) (v0 : Value), i ≤ L ∧ iv = .int .i64 i ∧ v0 = ov ∧ Hid (OwnsH wr v0 (ps.take i)) ∧ Hid (Below W6.heap.size W6 wr) ∧ Hid (∀ j, v0.ownBlock = some j → W6.heap.size ≤ j) ∧ Hid (∀ j x, j < i → ps[j]? = some x → x.n < n)) (fun _ iv _ => L - (intOf iv).toNat)
  case atStart => exact ⟨0, _, Nat.zero_le _, rfl, rfl, by rw [List.take_zero]; exact ownsH_nil _, Below.refl _ _, (fun j e => by cases e), fun j x hj => by omega⟩
  case round =>
    obtain ⟨i, v0, hi, rfl, rfl, OV, BV, NV, LV⟩ := hrel
    have c2 := HC2.out wr BV.out
    have HLL : Hid ((ps.take i).length ≤ 60) := by show _ ≤ _; rw [List.length_take]; have := HL.out; omega
    by_cases hgo : ∃ x, ps[i]? = some x ∧ x.n < n
    · obtain ⟨x, hx, hxn⟩ := hgo
      have hiL : i < L := by rw [← HL.out]; exact (List.getElem?_eq_some_iff.1 hx).1
      have hii : (i : Int) < (L : Int) := by omega
      obtain ⟨b, o, rfl, hc⟩ := (HDR.out wr BV.out).at_ hx
      have HTK : Hid (ps.take (i + 1) = ps.take i ++ [x]) := by show _ = _; rw [List.take_add_one, hx]; rfl
      have HLX : Hid (∀ j y, j < i + 1 → ps[j]? = some y → y.n < n) := fun j y hj hy => by
        by_cases e : j = i
        · subst e; rw [hx] at hy; cases hy; exact hxn
        · exact LV.out j y (by omega) hy
      obtain ⟨xa, xm, xc, hxv⟩ := HSV.out x (List.mem_of_getElem? hx)
      obtain ⟨xn, xk, xv⟩ := x
      simp only at hxv hxn
      subst hxv
      have y0 := hc.c0
      have y1 := hc.c1
      have y2 := hc.c2
      simp only at y0 y1 y2
      have hxi : (xn : Int) < (n : Int) := by omega
      clear hx hc LV
      go_wp2_with (at_builtin; refine wpList_pushH _ rfl (.tmp 70) (.tmp 78) rfl v0 (ps.take i) rfl OV.out ⟨xn, xk, .slice xa xm xc⟩ ⟨_, _, _, rfl⟩ rfl (by have := HLL.out; omega) ?_)
      intro v2 w7 o7 g7
      rw [← HTK.out] at o7
      have O7 : Hid (OwnsH w7 v2 (ps.take (i + 1))) := o7
      have gn := g7.onto BV.out NV.out
      have B7 : Hid (Below W6.heap.size W6 w7) := gn.1
      have N7 : Hid (∀ j, v2.ownBlock = some j → W6.heap.size ≤ j) := gn.2
      clear o7 g7 gn OV BV NV HTK c2 y0 y1 y2
      go_wp2_with fail
      go_roundw
      case rel => exact ⟨i + 1, _, by omega, by go_num, rfl, O7, B7, N7, HLX⟩
      case measure => simp [intOf]; omega
    · have HEX : Hid (∀ x, ps[i]? = some x → n ≤ x.n) := fun x hx => by
        rcases Nat.lt_or_ge x.n n with e | e
        · exact absurd ⟨x, hx, e⟩ hgo
        · exact e
      have p0 : wr.cell? ⟨g, 0, none⟩ = some (.int .i64 (n : Int)) := by rw [cell_of_row wr g 0 _ _ (0, 0) ((BV.out.block g (Array.getElem?_eq_some_iff.1 X6.out).1).trans X6.out)]; rfl
      have p1 : wr.cell? ⟨g, 1, none⟩ = some (.int .i64 k) := by rw [cell_of_row wr g 1 _ _ (0, 0) ((BV.out.block g (Array.getElem?_eq_some_iff.1 X6.out).1).trans X6.out)]; rfl
      have p2 : wr.cell? ⟨g, 2, none⟩ = some (.slice ua um uc) := by rw [cell_of_row wr g 2 _ _ (0, 0) ((BV.out.block g (Array.getElem?_eq_some_iff.1 X6.out).1).trans X6.out)]; rfl
      have HP : Hid (HCell wr g 0 ⟨n, k, .slice ua um uc⟩) := ⟨p0, p1, p2⟩
      have HIL : Hid (i ≤ ps.length) := by show _ ≤ _; rw [HL.out]; exact hi
      have HT1 : Hid ((ps.take i).length ≤ 100000) := by show _ ≤ _; have := HLL.out; omega
      have HT2 : Hid ((ps.take i ++ [(⟨n, k, .slice ua um uc⟩ : Hd)]).length + (ps.drop i).length ≤ 100000) := by
        show _ ≤ _
        rw [List.length_append, List.length_take, List.length_drop]
        have := HL.out
        simp
        omega
      have HSD : Hid (∀ x, x ∈ ps.drop i → Slv x.v) := fun x hx => HSV.out x (List.mem_of_mem_drop hx)
      have HKI : Hid (kins s.d n = (kwo s.d n).take i ++ n :: (kwo s.d n).drop i) := by
        refine kins_parts HOK.out.1.dr ?_ (fun j x hj hx => ?_) (fun x hx => ?_)
        · have h1 := HIL.out
          rw [← HPS.out, List.length_map] at h1
          exact h1
        · have := LV.out j (hdk s.B V3 x) hj (by rw [← HPS.out, List.getElem?_map, hx]; rfl)
          exact this
        · have := HEX.out (hdk s.B V3 x) (by rw [← HPS.out, List.getElem?_map, hx]; rfl)
          exact this
      have HALL : Hid (ps.take i ++ (⟨n, k, .slice ua um uc⟩ : Hd) :: ps.drop i = (kins s.d n).map (hdk (bput s.B n (k, ys)) (vputK V3 n (.slice ua um uc)))) := by
        show _ = _
        have e : ps = (kwo s.d n).map (hdk (bput s.B n (k, ys)) (vputK V3 n (.slice ua um uc))) := by
          rw [← HPS.out]
          refine List.map_congr_left fun j hj => ?_
          have hne : j ≠ n := fun e => (kwo_mem.1 hj).2 (by omega)
          simp [hdk, bput, vputK, hne]
        rw [HKI.out, List.map_append, List.map_cons, List.map_take, List.map_drop, ← e]
        simp [hdk, bput, vputK]
      have HFIN : Hid (∀ wl u, Below W6.heap.size W6 wl → OwnsH wl u ((kins s.d n).map (hdk (bput s.B n (k, ys)) (vputK V3 n (.slice ua um uc)))) → (∀ j, u.ownBlock = some j → W6.heap.size ≤ j) → RqTo Y w (wl.setCell ⟨q, 2, none⟩ u) q r (s.lay n (k, ys))) := fun wl u hb hu hun => by
        have hl6 := H6.out.below hb
        have t4 : Tch (fun j => j = q) wl (wl.setCell ⟨q, 2, none⟩ u) := tch_set wl q 2 u
        have b3 : Below w3.heap.size w3 wl := B36.out.trans (hb.mono B36.out.size)
        have s3 := B36.out.size
        have gq : g ≠ q := fun e => by have h1 := H3.out.lt; have h2 := HG.out; omega
        have TT : Tch (fun j => j = q) w3 (wl.setCell ⟨q, 2, none⟩ u) := (Tch.of_below b3).trans t4 (fun _ _ e => e)
        refine RqTo.after T3.out.1 T3.out.2 ?_
        refine H3.out.turn (s' := s.lay n (k, ys)) (V' := vputK V3 n (.slice ua um uc)) (dv' := u) (cv' := cv3) TT ?_ ?_ ?_ (fun j hj _ => .inr (by have := hun j hj; omega)) (fun j hj h0 => .inl ⟨hj, h0⟩) (fun j hj => ?_) H3.out.rm1 rfl ?_
        · rw [heap_setCell_same wl q 2 _ _ _ hl6.box]; rfl
        · exact (hu.tch t4 (fun j hj e => by have h1 := hun j hj; have h2 := H3.out.lt; omega)).rd
        · have e : (s.lay n (k, ys)).c.map (hdk (s.lay n (k, ys)).B (vputK V3 n (.slice ua um uc))) = (kwo s.c n).map (hdk s.B V3) := by
            refine List.map_congr_left fun j hj => ?_
            have hne : j ≠ n := fun e => (kwo_mem.1 hj).2 (by omega)
            simp [hdk, CS.lay, bput, vputK, hne]
          rw [e]
          exact H3.out.cr.tch TT (fun j hj h0 e => (H3.out.cq j hj (fun e => h0 (by rw [e]; rfl))).2 e)
        · by_cases e : j = n
          · subst e
            refine .inr ⟨?_, fun i hi h0 => ?_⟩
            · show Rd .u8 _ (vputK V3 j (.slice ua um uc) j) (bput s.B j (k, ys) j).2
              rw [bput_same]
              simp only [vputK, if_true]
              exact (U6.out.below hb).tch t4 (fun i hi e => by have h1 := NU.out i hi; have h2 := H3.out.lt; have h3 := HG.out; omega)
            · have hi' : (Value.slice ua um uc).ownBlock = some i := by simpa [vputK] using hi
              have h1 := NU.out i hi'
              have h2 := H3.out.lt
              have h3 := HG.out
              exact ⟨.inr (by omega), by omega⟩
          · refine .inl ⟨?_, by simp [vputK, e], bput_else _ _ e⟩
            rcases hj with hj | hj
            · exact .inl (kwo_mem.2 ⟨(kins_mem.1 hj).resolve_left e, by omega⟩)
            · exact .inr hj
        · exact Nat.le_trans HOK.out.2.dle (by omega)
      have HC2' : Hid (∀ W, Below W6.heap.size W6 W → W.cell? ⟨q, 2, none⟩ = some (.slice da L dc) ∧ W.frozen? ⟨q, 2, none⟩ = false ∧ RdH W (.slice da L dc) ps) := fun W hb => ⟨HC2.out W hb, (H6.out.below hb).fz 2, HDR.out W hb⟩
      have GE : Hid (∀ j, g = j → j < W6.heap.size) := fun j e => by rw [← e]; exact (Array.getElem?_eq_some_iff.1 X6.out).1
      clear LV HKI HG HNQ HOK T3 H3 H6 U6 X6 NU HC2 HP
      by_cases hiL : i < L
      · have hii : (i : Int) < (L : Int) := by omega
        obtain ⟨x, hx⟩ : ∃ x, ps[i]? = some x := ⟨_, List.getElem?_eq_getElem (by rw [HL.out]; exact hiL)⟩
        have hxn := HEX.out x hx
        obtain ⟨b, o, rfl, hc⟩ := (HDR.out wr BV.out).at_ hx
        obtain ⟨xn, xk, xv⟩ := x
        have y0 := hc.c0
        simp only at hxn y0
        have hxi : decide ((xn : Int) < (n : Int)) = false := by rw [decide_eq_false_iff_not]; omega
        have hxj : decide (xn < n) = false := by rw [decide_eq_false_iff_not]; omega
        clear hx hc HEX HPS HSV hxn HDR hgo
        go_wp2_with (at_builtin; refine wpList_pushH _ rfl (.tmp 82) (.tmp 84) rfl v0 (ps.take i) rfl OV.out ⟨n, k, .slice ua um uc⟩ ⟨_, _, _, rfl⟩ rfl HT1.out ?_)
        intro v1 w7 o7 g7
        have gn := g7.onto BV.out NV.out
        have O7 : Hid (OwnsH w7 v1 (ps.take i ++ [(⟨n, k, .slice ua um uc⟩ : Hd)])) := o7
        have B7 : Hid (Below W6.heap.size W6 w7) := gn.1
        have N7 : Hid (∀ j, v1.ownBlock = some j → W6.heap.size ≤ j) := gn.2
        have d2 := (HC2'.out w7 B7.out).1
        have HR7 : Hid (RdH w7 (.slice (some ⟨b, o, none⟩) L dc) ps) := (HC2'.out w7 B7.out).2.2
        clear o7 g7 gn OV BV NV c2 p0 p1 p2
        go_wp2_with (with_reducible (show wpList _ _ _ (Oper.mk _ (Op.slice _ _ _ _ _) _ _ _ _ :: _) _ _); refine wpList_fromH _ w7 rfl (.tmp 90) (.tmp 91) rfl (.slice (some ⟨b, o, none⟩) L dc) ps rfl HR7.out i rfl HIL.out ?_)
        intro u2 hu2 hub2
        have U2 : Hid (RdH w7 u2 (ps.drop i)) := hu2
        clear hu2 hub2
        go_wp2_with (at_builtin; refine wpList_manyH _ rfl (.tmp 86) (.tmp 92) rfl v1 (ps.take i ++ [(⟨n, k, .slice ua um uc⟩ : Hd)]) rfl O7.out u2 (ps.drop i) rfl U2.out HSD.out HT2.out ?_)
        intro v3 w8 o8 g8
        rw [HALL.out] at o8
        have gn := g8.onto B7.out N7.out
        obtain ⟨va, vm, vc, rfl⟩ : ∃ a m cap, v3 = .slice a m cap := by obtain ⟨a, c, e, _⟩ := o8.rd; exact ⟨_, _, _, e⟩
        have HR := hideP (HFIN.out w8 _ gn.1 o8 gn.2)
        have e2 := (HC2'.out w8 gn.1).1
        have f2 := (HC2'.out w8 gn.1).2.1
        clear o8 g8 gn HFIN HC2' d2 O7 B7 N7
        go_wp2_with fail
        go_ret
        exact ⟨rfl, HR.out⟩
      · have hii : decide ((i : Int) < (L : Int)) = false := by rw [decide_eq_false_iff_not]; omega
        have hij : decide (i < L) = false := by rw [decide_eq_false_iff_not]; omega
        clear HEX HPS HSV HDR hgo hiL
        go_wp2_with (at_builtin; refine wpList_pushH _ rfl (.tmp 82) (.tmp 84) rfl v0 (ps.take i) rfl OV.out ⟨n, k, .slice ua um uc⟩ ⟨_, _, _, rfl⟩ rfl HT1.out ?_)
        intro v1 w7 o7 g7
        have gn := g7.onto BV.out NV.out
        have O7 : Hid (OwnsH w7 v1 (ps.take i ++ [(⟨n, k, .slice ua um uc⟩ : Hd)])) := o7
        have B7 : Hid (Below W6.heap.size W6 w7) := gn.1
        have N7 : Hid (∀ j, v1.ownBlock = some j → W6.heap.size ≤ j) := gn.2
        have d2 := (HC2'.out w7 B7.out).1
        have HR7 : Hid (RdH w7 (.slice da L dc) ps) := (HC2'.out w7 B7.out).2.2
        clear o7 g7 gn OV BV NV c2 p0 p1 p2
        go_wp2_with (with_reducible (show wpList _ _ _ (Oper.mk _ (Op.slice _ _ _ _ _) _ _ _ _ :: _) _ _); refine wpList_fromH _ w7 rfl (.tmp 90) (.tmp 91) rfl (.slice da L dc) ps rfl HR7.out i rfl HIL.out ?_)
        intro u2 hu2 hub2
        have U2 : Hid (RdH w7 u2 (ps.drop i)) := hu2
        clear hu2 hub2
        go_wp2_with (at_builtin; refine wpList_manyH _ rfl (.tmp 86) (.tmp 92) rfl v1 (ps.take i ++ [(⟨n, k, .slice ua um uc⟩ : Hd)]) rfl O7.out u2 (ps.drop i) rfl U2.out HSD.out HT2.out ?_)
        intro v3 w8 o8 g8
        rw [HALL.out] at o8
        have gn := g8.onto B7.out N7.out
        obtain ⟨va, vm, vc, rfl⟩ : ∃ a m cap, v3 = .slice a m cap := by obtain ⟨a, c, e, _⟩ := o8.rd; exact ⟨_, _, _, e⟩
        have HR := hideP (HFIN.out w8 _ gn.1 o8 gn.2)
        have e2 := (HC2'.out w8 gn.1).1
        have f2 := (HC2'.out w8 gn.1).2.1
        clear o8 g8 gn HFIN HC2' d2 O7 B7 N7
        go_wp2_with fail
        go_ret
        exact ⟨rfl, HR.out⟩

theorem rput_any {Y R : Nat → Prop} {q r : Nat} {s : CS} {E : DS} (n k : Int) (v : Value) (ys : List Int) (w : World) (hQ : Rq Y w q r s) (hR : Rf R w r E) (hl : E.L.length = 60) (ho : COk 60 s) (hr : Rd .u8 w v ys) (hb : By ys) (hv : ∀ j, v.ownBlock = some j → ys ≠ [] → j ≠ q) :
    Calls Try.prog 27 #[cp q, .int .i64 n, blk k v] w fun e w' => e = .returned (.int .i64 (s.putE 60 n k ys)) ∧ RqTo Y w w' q r (s.putS 60 n k ys) := by
  cases h1 : kthere 60 n with
  | false =>
    have := rput_bad n k v ys w hQ hR hl hr hb (.inl h1)
    have e : s.putE 60 n k ys = 2 := by unfold CS.putE; rw [h1]; rfl
    have e2 : s.putS 60 n k ys = s := by unfold CS.putS; rw [e]; rfl
    rw [e, e2]
    rw [h1] at this
    simpa using this
  | true =>
    cases h2 : mayK n k ys.length with
    | false =>
      have := rput_bad n k v ys w hQ hR hl hr hb (.inr h2)
      have e : s.putE 60 n k ys = 1 := by unfold CS.putE; rw [h1, h2]; rfl
      have e2 : s.putS 60 n k ys = s := by unfold CS.putS; rw [e]; rfl
      rw [e, e2]
      rw [h1] at this
      simpa using this
    | true =>
      have hi := kthere_iff.1 h1
      obtain ⟨m, rfl⟩ : ∃ m : Nat, n = (m : Int) := ⟨n.toNat, by omega⟩
      have := rput_ok m k v ys w hQ hR hl ho hr hb hv (by omega) h2
      have e : s.putE 60 m k ys = 0 := by unfold CS.putE; rw [h1, h2]; rfl
      have e2 : s.putS 60 m k ys = s.lay m (k, ys) := by unfold CS.putS; rw [e]; rfl
      rw [e, e2]
      exact this
end Go.Proofs.Ytgpaklifjonlkaa
