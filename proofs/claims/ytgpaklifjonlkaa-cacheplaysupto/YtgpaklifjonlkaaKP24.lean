import Derived.Test.YtgpaklifjonlkaaKP22
import Derived.Test.YtgpaklifjonlkaaKP23
/-
  A block is put.
-/
namespace Go.Proofs.Ytgpaklifjonlkaa
open Go.RowKit Go.Maps
set_option linter.unusedVariables false
set_option linter.unusedSimpArgs false
set_option maxRecDepth 100000

theorem kg_lay (s : CS) (V : Nat → Value) (n : Nat) (k : Int) (ys : List Int) (v : Value) : gput (kg s V) n (some (hent k v true)) = kg (s.lay n (k, ys)) (vputK V n v) := by
  funext i
  unfold gput kg CS.lay vputK bput
  simp only [kwo_mem, kins_mem]
  by_cases e : i = n
  · subst e
    simp
  · have : (i : Int) ≠ (n : Int) := by omega
    simp [e, this]

set_option maxHeartbeats 1000000 in
theorem putK_ok {X S : Nat → Prop} {c d N : Nat} {s : CS} {D : DS} (n : Nat) (k : Int) (v : Value) (ys : List Int) (w : World) (hC : Ch X w c d N s) (hD : Dk S w d D) (hN : D.L.length = N) (hr : Rd .u8 w v ys) (hb : By ys) (hv : ∀ j, v.ownBlock = some j → ys ≠ [] → ¬ X j)
    (hn : 50 ≤ n ∧ n < N) (hm : mayK (n : Int) k ys.length = true) :
    Calls Try.prog 20 #[cp c, .int .i64 (n : Int), blk k v] w fun e w' => e = .returned (.int .i64 0) ∧ ChTo X w w' c d N (s.lay n (k, ys)) := by
  obtain ⟨mb, av, V, h⟩ := hC
  have H : Hid (ChAt X w c d N s mb av V) := h
  have HY : Hid ((50 ≤ n ∧ n < N) ∧ mayK (n : Int) k ys.length = true ∧ By ys) := ⟨hn, hm, hb⟩
  have HV : Hid (∀ j, v.ownBlock = some j → ys ≠ [] → ¬ X j) := hv
  have HRd : Hid (Rd .u8 w v ys) := hr
  obtain ⟨W1, hW1⟩ : ∃ W1, w.alloc (.cells #[.int .i64 k, v] 40) = W1 := ⟨_, rfl⟩
  have B1 : Hid (Below w.heap.size w W1) := by rw [← hW1]; exact (Below.refl _ _).alloc (Nat.le_refl _) _
  have Q1 : Hid (Bkv W1 w.heap.size k v) := by rw [← hW1]; exact bkv_new w _ _
  have H1 : Hid (ChAt X W1 c d N s mb av V) := h.tch (R := fun _ => False) (Tch.of_below B1.out) (fun _ _ e => e)
  have HT := hideP (thereK_any (n : Int) W1 H1.out.c0 (hD.below B1.out))
  have et : kthere D.L.length (n : Int) = true := kthere_iff.2 (by omega)
  rw [et] at HT
  have HP := hideP (put_any (n : Int) k v ys W1 (hr.below B1.out) hb)
  obtain ⟨a, m, cap, rfl⟩ : ∃ a m cap, v = .slice a m cap := by obtain ⟨a, c, e, _⟩ := hr; exact ⟨_, _, _, e⟩
  have q0 := Q1.out.c0
  have q1 := Q1.out.c1
  have hn4 : (n : Int) < 4096 := by have := h.n2; omega
  have HYL : Hid (ys.length ≤ 140737488355328) := by obtain ⟨_, _, _, _, m5⟩ := mayK_iff.1 hm; show _ ≤ _; omega
  clear h hn hm hb hr hv hD hN et
  unfold blk at HP ⊢
  go_enter Try.func20, Try.ntmps20
  go_wp2_with fail
  refine HT.out.mono ?_
  rintro e w' ⟨rfl, rfl⟩
  clear HT
  go_wp2_with fail
  refine HP.out.mono ?_
  rintro e w2 ⟨u, ec, rfl, hb2, hn2, hor⟩
  rcases hor with ⟨_, rfl, hw2, g, rfl⟩ | ⟨h0, _⟩
  · have B2 : Hid (Below w.heap.size w w2) := B1.out.trans (hb2.mono B1.out.size)
    have Q2 : Hid (Bkv w2 w.heap.size k (.slice a m cap)) := Q1.out.below hb2
    have H2 : Hid (ChAt X w2 c d N s mb av V) := H.out.tch (R := fun _ => False) (Tch.of_below B2.out) (fun _ _ e => e)
    have HL := hideP (leave_any (n : Int) w2 H2.out.box H2.out.ord H2.out.ok.cn (by have := H2.out.ok.cle; have := H2.out.n2; omega))
    clear hb2 hn2 hw2 HP hW1 q0 q1 Q1 H1 B1
    go_wp2_with fail
    refine HL.out.mono ?_
    rintro e w3 ⟨rfl, av3, hb3, ho3, hv3, ht3⟩
    have HB3 : Hid (w3.heap[c]? = some (.cells #[dp d, .int .i64 (s.rm : Int), .map (some mb), av3] 73 (0, 0))) := hb3
    have HO3 : Hid (OwnsK w3 av3 ((kwo s.c n).map Int.ofNat)) := ho3
    have HV3 : Hid (av3.ownBlock = av.ownBlock) := hv3
    have T3 : Hid (Tch (fun k => k = c ∨ av.ownBlock = some k) w w3) := (Tch.of_below B2.out).trans ht3 (fun _ _ e => e)
    have M3 : Hid (Mp w3 mb N (kg s V)) := H.out.map.tch T3.out (fun e => by
      rcases e with e | e
      · exact H.out.ne_mb e.symm
      · exact H.out.av_mb e)
    have Q3 : Hid (Bkv w3 w.heap.size k (.slice a m cap)) := Q2.out.tch ht3 (fun e => by
      rcases e with e | e
      · have := H.out.lt; omega
      · have := H.out.xlt _ (H.out.xa _ e); omega)
    have R3 : Hid (Rd .u8 w3 (.slice a m cap) ys) := HRd.out.tch0 T3.out (fun j hj h0 e => by
      rcases e with e | e
      · exact HV.out j hj h0 (by rw [e]; exact H.out.xc)
      · exact HV.out j hj h0 (H.out.xa j e))
    have c2 : w3.cell? ⟨c, 2, none⟩ = some (.map (some mb)) := by rw [cell_of_row w3 c 2 _ _ (0, 0) hb3]; rfl
    have q0 := Q3.out.c0
    have q1 := Q3.out.c1
    have HOW := hideP (own_any k (.slice a m cap) ys w3.drew (R3.out.tch (S := fun _ => False) ⟨rfl, rfl, rfl, Nat.le_refl _, fun _ _ _ => rfl⟩ (fun _ _ e => e)) HYL.out)
    unfold blk at HOW
    have HST : Hid (∀ W4 u, Nw w3.drew.heap.size W4 u ys → Below w3.drew.heap.size w3.drew W4 → (W4.cell? ⟨c, 2, none⟩ = some (.map (some mb)) ∧ W4.cell? ⟨w.heap.size, 0, none⟩ = some (.int .i64 k) ∧ W4.cell? ⟨w.heap.size, 1, none⟩ = some (.slice a m cap)) ∧
        ∃ W5, (Instr.mapUpdate 71 (.map (some mb)) (.int .i64 (n : Int)) (.agg #[.int .i64 k, u, .bool true])).run Try.prog W4 = .ok () W5 ∧ (W5.cell? ⟨c, 2, none⟩ = some (.map (some mb)) ∧ W5.cell? ⟨w.heap.size, 0, none⟩ = some (.int .i64 k) ∧ W5.cell? ⟨w.heap.size, 1, none⟩ = some (.slice a m cap)) ∧ Hid (ChTo X w W5 c d N (s.lay n (k, ys)))) := fun W4 u hN hB => by
      have t34 : Tch (fun _ => False) w3 W4 := Tch.trans (b := w3.drew) (S := fun _ => False) (S' := fun _ => False) ⟨rfl, rfl, rfl, Nat.le_refl _, fun _ _ _ => rfl⟩ (Tch.of_below hB) (fun _ _ e => e)
      have b4 : W4.heap[c]? = some (.cells #[dp d, .int .i64 (s.rm : Int), .map (some mb), av3] 73 (0, 0)) := by rw [t34.block c (Array.getElem?_eq_some_iff.1 HB3.out).1 (fun e => e)]; exact HB3.out
      have q4 := Q3.out.tch t34 (fun e => e)
      obtain ⟨W5, hrun, m5, t5⟩ := (M3.out.tch t34 (fun e => e)).putH HY.out.1.2 H.out.n2 (.agg #[.int .i64 k, u, .bool true])
      have b5 : W5.heap[c]? = some (.cells #[dp d, .int .i64 (s.rm : Int), .map (some mb), av3] 73 (0, 0)) := by rw [t5.block c (Array.getElem?_eq_some_iff.1 b4).1 H.out.ne_mb]; exact b4
      have q5 := q4.tch t5 (fun e => by have := H.out.xlt _ H.out.xm; omega)
      refine ⟨⟨by rw [cell_of_row W4 c 2 _ _ (0, 0) b4]; rfl, q4.c0, q4.c1⟩, W5, hrun, ⟨by rw [cell_of_row W5 c 2 _ _ (0, 0) b5]; rfl, q5.c0, q5.c1⟩, ?_⟩
      have hnew : ∀ j, u.ownBlock = some j → w.heap.size ≤ j := fun j hj => Nat.le_trans T3.out.size (hN.new j hj)
      refine H.out.turn (V' := vputK V n u) (av' := av3) (s' := s.lay n (k, ys)) (((T3.out.mono (S' := fun k => k = c ∨ av.ownBlock = some k ∨ k = mb) (fun k _ e => e.imp id .inl)).trans t34 (fun _ _ e => e.elim)).trans t5 (fun k _ e => .inr (.inr e))) b5 (by rw [← kg_lay]; exact m5) ?_ (fun k hk => .inl (by rw [← HV3.out]; exact hk)) (H.out.ok.lay HY.out.1 HY.out.2.1 HY.out.2.2) (fun j hj => ?_)
      · exact (HO3.out.tch t34 (fun _ _ e => e)).tch t5 (fun k hk e => H.out.av_mb (by rw [HV3.out] at hk; rw [← e]; exact hk))
      · by_cases e : j = n
        · subst e
          have e1 : vputK V j u j = u := by simp [vputK]
          have e2 : ((s.lay j (k, ys)).B j) = (k, ys) := by show bput s.B j (k, ys) j = _; simp [bput]
          rw [e1, e2]
          refine .inr ⟨hN.rd.tch t5 (fun i hi e => ?_), fun i hi h0 => ⟨.inr (hnew i hi), ?_, ?_, fun e => ?_⟩⟩
          · have := hnew i hi; have := H.out.xlt _ H.out.xm; omega
          · have := hnew i hi; have := H.out.lt; omega
          · have := hnew i hi; have := H.out.xlt _ H.out.xm; omega
          · have h1 := hnew i hi
            rw [HV3.out] at e
            have := H.out.xlt i (H.out.xa i e)
            omega
        · refine .inl ⟨?_, by simp [vputK, e], by show bput s.B n (k, ys) j = _; simp [bput, e]⟩
          rcases hj with hj | hj
          · rcases kins_mem.1 hj with e2 | e2
            · exact absurd e2 e
            · exact .inl e2
          · exact .inr (kwo_mem.1 hj).1
    have hS : w3.drew.cell? ⟨c, 2, none⟩ = some (.map (some mb)) ∧ w3.drew.cell? ⟨w.heap.size, 0, none⟩ = some (.int .i64 k) ∧ w3.drew.cell? ⟨w.heap.size, 1, none⟩ = some (.slice a m cap) := ⟨c2, q0, q1⟩
    clear hb3 ho3 hv3 ht3 HL H2 Q2 B2
    go_wp2_with fail
    go_region_held3 (fun w' => w'.cell? ⟨c, 2, none⟩ = some (.map (some mb)) ∧ w'.cell? ⟨w.heap.size, 0, none⟩ = some (.int .i64 k) ∧ w'.cell? ⟨w.heap.size, 1, none⟩ = some (.slice a m cap)) (first | go_keep | exact hS4 | exact hS5)
      (first
        | (go_at_call 47; refine HOW.out.mono ?_; rintro e W4 ⟨u, rfl, hN4, hB4⟩; obtain ⟨hS4, W5, hup, hS5, FIN⟩ := HST.out W4 u hN4 hB4; obtain ⟨ua, um, uc, rfl⟩ : ∃ a m cap, u = .slice a m cap := by { obtain ⟨a, c, e, _⟩ := hN4.rd; exact ⟨_, _, _, e⟩ }; clear hN4 hB4))
    go_wp2_with fail
    go_ret
    exact ⟨rfl, FIN.out⟩
  · rw [HY.out.2.1] at h0
    cases h0
end Go.Proofs.Ytgpaklifjonlkaa
/-
  A block is put, for whatever is asked; a block is asked.
-/
namespace Go.Proofs.Ytgpaklifjonlkaa
open Go.RowKit Go.Maps
set_option linter.unusedVariables false
set_option linter.unusedSimpArgs false
set_option maxRecDepth 100000

set_option maxHeartbeats 400000 in
theorem putK_range {X S : Nat → Prop} {c d N : Nat} {s : CS} {D : DS} (n : Int) (k : Int) (v : Value) (ys : List Int) (w : World) (hC : Ch X w c d N s) (hD : Dk S w d D) (hN : D.L.length = N) (hr : Rd .u8 w v ys) (hn : kthere N n = false) :
    Calls Try.prog 20 #[cp c, .int .i64 n, blk k v] w fun e w' => e = .returned (.int .i64 2) ∧ ChTo X w w' c d N s := by
  obtain ⟨mb, av, V, h⟩ := hC
  have H : Hid (ChAt X w c d N s mb av V) := h
  obtain ⟨W1, hW1⟩ : ∃ W1, w.alloc (.cells #[.int .i64 k, v] 40) = W1 := ⟨_, rfl⟩
  have B1 : Hid (Below w.heap.size w W1) := by rw [← hW1]; exact (Below.refl _ _).alloc (Nat.le_refl _) _
  have H1 : Hid (ChAt X W1 c d N s mb av V) := h.tch (R := fun _ => False) (Tch.of_below B1.out) (fun _ _ e => e)
  have HT := hideP (thereK_any n W1 H1.out.c0 (hD.below B1.out))
  rw [hN, hn] at HT
  obtain ⟨a, m, cap, rfl⟩ : ∃ a m cap, v = .slice a m cap := by obtain ⟨a, c, e, _⟩ := hr; exact ⟨_, _, _, e⟩
  clear h hn hr hD hN
  unfold blk
  go_enter Try.func20, Try.ntmps20
  go_wp2_with fail
  refine HT.out.mono ?_
  rintro e w' ⟨rfl, rfl⟩
  go_wp2_with fail
  go_ret
  exact ⟨rfl, Ch.to_below ⟨_, _, _, H.out⟩ B1.out⟩

set_option maxHeartbeats 400000 in
theorem putK_may {X S : Nat → Prop} {c d N : Nat} {s : CS} {D : DS} (n : Int) (k : Int) (v : Value) (ys : List Int) (w : World) (hC : Ch X w c d N s) (hD : Dk S w d D) (hN : D.L.length = N) (hr : Rd .u8 w v ys) (hb : By ys) (hn : kthere N n = true) (hm : mayK n k ys.length = false) :
    Calls Try.prog 20 #[cp c, .int .i64 n, blk k v] w fun e w' => e = .returned (.int .i64 1) ∧ ChTo X w w' c d N s := by
  obtain ⟨mb, av, V, h⟩ := hC
  have H : Hid (ChAt X w c d N s mb av V) := h
  obtain ⟨W1, hW1⟩ : ∃ W1, w.alloc (.cells #[.int .i64 k, v] 40) = W1 := ⟨_, rfl⟩
  have B1 : Hid (Below w.heap.size w W1) := by rw [← hW1]; exact (Below.refl _ _).alloc (Nat.le_refl _) _
  have Q1 : Hid (Bkv W1 w.heap.size k v) := by rw [← hW1]; exact bkv_new w _ _
  have H1 : Hid (ChAt X W1 c d N s mb av V) := h.tch (R := fun _ => False) (Tch.of_below B1.out) (fun _ _ e => e)
  have HT := hideP (thereK_any n W1 H1.out.c0 (hD.below B1.out))
  rw [hN, hn] at HT
  have HP := hideP (put_any n k v ys W1 (hr.below B1.out) hb)
  have HM : Hid (mayK n k ys.length = false) := hm
  have q0 := Q1.out.c0
  have q1 := Q1.out.c1
  obtain ⟨a, m, cap, rfl⟩ : ∃ a m cap, v = .slice a m cap := by obtain ⟨a, c, e, _⟩ := hr; exact ⟨_, _, _, e⟩
  clear h hn hr hD hN hm hb
  unfold blk at HP ⊢
  go_enter Try.func20, Try.ntmps20
  go_wp2_with fail
  refine HT.out.mono ?_
  rintro e w' ⟨rfl, rfl⟩
  clear HT
  go_wp2_with fail
  refine HP.out.mono ?_
  rintro e w2 ⟨u, ec, rfl, hb2, hn2, hor⟩
  rcases hor with ⟨h0, _⟩ | ⟨_, rfl, rfl⟩
  · rw [HM.out] at h0
    cases h0
  · have B2 : Hid (Below w.heap.size w w2) := B1.out.trans (hb2.mono B1.out.size)
    clear hb2 hn2 HP q0 q1 hW1
    go_wp2_with fail
    go_ret
    exact ⟨rfl, Ch.to_below ⟨_, _, _, H.out⟩ B2.out⟩

/-- Put, for whatever is asked. -/
theorem putK_any {X S : Nat → Prop} {c d N : Nat} {s : CS} {D : DS} (n : Int) (k : Int) (v : Value) (ys : List Int) (w : World) (hC : Ch X w c d N s) (hD : Dk S w d D) (hN : D.L.length = N) (hr : Rd .u8 w v ys) (hb : By ys) (hv : ∀ j, v.ownBlock = some j → ys ≠ [] → ¬ X j) :
    Calls Try.prog 20 #[cp c, .int .i64 n, blk k v] w fun e w' => e = .returned (.int .i64 (s.putE N n k ys)) ∧ ChTo X w w' c d N (s.putS N n k ys) := by
  unfold CS.putS CS.putE
  cases h1 : kthere N n with
  | false =>
    simp only [Bool.false_eq_true, if_false]
    rw [if_neg (by decide)]
    exact putK_range n k v ys w hC hD hN hr h1
  | true =>
    cases h2 : mayK n k ys.length with
    | false =>
      simp only [Bool.false_eq_true, if_false, if_true]
      rw [if_neg (by decide)]
      exact putK_may n k v ys w hC hD hN hr hb h1 h2
    | true =>
      simp only [if_true]
      obtain ⟨i, rfl⟩ : ∃ i : Nat, n = (i : Int) := ⟨n.toNat, by have := (kthere_iff.1 h1).1; omega⟩
      exact putK_ok i k v ys w hC hD hN hr hb hv (by have := kthere_iff.1 h1; omega) h2

/-- A variable that is a block in the cache. -/
def Hkv (w : World) (b : Nat) (k : Int) (v : Value) (y : Bool) : Prop := w.heap[b]? = some (.cells #[.int .i64 k, v, .bool y] 81 (0, 0))
section
variable {w w' : World} {b : Nat} {k : Int} {v : Value} {y : Bool}
theorem Hkv.c0 (h : Hkv w b k v y) : w.cell? ⟨b, 0, none⟩ = some (.int .i64 k) := by rw [cell_of_row w b 0 _ _ (0, 0) h]; rfl
theorem Hkv.c1 (h : Hkv w b k v y) : w.cell? ⟨b, 1, none⟩ = some v := by rw [cell_of_row w b 1 _ _ (0, 0) h]; rfl
theorem Hkv.c2 (h : Hkv w b k v y) : w.cell? ⟨b, 2, none⟩ = some (.bool y) := by rw [cell_of_row w b 2 _ _ (0, 0) h]; rfl
theorem Hkv.fz (h : Hkv w b k v y) (i : Nat) : w.frozen? ⟨b, i, none⟩ = false := frozen_of_row w b i _ _ h
theorem Hkv.lt (h : Hkv w b k v y) : b < w.heap.size := (Array.getElem?_eq_some_iff.1 h).1
theorem Hkv.tch {S : Nat → Prop} (h : Hkv w b k v y) (ht : Tch S w w') (hb : ¬ S b) : Hkv w' b k v y := by unfold Hkv; rw [ht.block b h.lt hb]; exact h
theorem Hkv.below (h : Hkv w b k v y) (hb : Below w.heap.size w w') : Hkv w' b k v y := h.tch (S := fun _ => False) (Tch.of_below hb) (fun e => e)
theorem hkv_new (w : World) (k : Int) (v : Value) (y : Bool) : Hkv (w.alloc (.cells #[.int .i64 k, v, .bool y] 81)) w.heap.size k v y := heap_alloc_new w _
theorem Hkv.load (h : Hkv w b k v y) : (loadVar 40 ⟨b, 0, none⟩).run Try.prog w = .ok (blk k v) w :=
  run_loadVar_mid (P := Try.prog) w b 0 40 [.int .i64 k, v] _ (fun j u hu => by
    rw [Nat.zero_add, cell_of_row w b j _ _ (0, 0) h, List.getElem?_toArray]
    match j, hu with
    | 0, hu => exact hu
    | 1, hu => exact hu) Try.underlying40 rfl inf_blk
end

set_option maxHeartbeats 400000 in
theorem getK_range {X S : Nat → Prop} {c d N : Nat} {s : CS} {D : DS} (n : Int) (w : World) (hC : Ch X w c d N s) (hD : Dk S w d D) (hN : D.L.length = N) (hn : kthere N n = false) :
    Calls Try.prog 22 #[cp c, .int .i64 n] w fun e w' => e = .returned (.tuple #[blk 0 (.slice none 0 0), .int .i64 2]) ∧ ChTo X w w' c d N s := by
  obtain ⟨mb, av, V, h⟩ := hC
  have H : Hid (ChAt X w c d N s mb av V) := h
  obtain ⟨W1, hW1⟩ : ∃ W1, w.alloc (.cells #[.int .i64 0, .slice none 0 0] 40) = W1 := ⟨_, rfl⟩
  have B1 : Hid (Below w.heap.size w W1) := by rw [← hW1]; exact (Below.refl _ _).alloc (Nat.le_refl _) _
  have Q1 : Hid (Bkv W1 w.heap.size 0 (.slice none 0 0)) := by rw [← hW1]; exact bkv_new w _ _
  have H1 : Hid (ChAt X W1 c d N s mb av V) := h.tch (R := fun _ => False) (Tch.of_below B1.out) (fun _ _ e => e)
  have HT := hideP (thereK_any n W1 H1.out.c0 (hD.below B1.out))
  rw [hN, hn] at HT
  have q0 := Q1.out.c0
  have q1 := Q1.out.c1
  have f0 := Q1.out.fz 0
  have f1 := Q1.out.fz 1
  obtain ⟨W2, hW2⟩ : ∃ W2, (W1.setCell ⟨w.heap.size, 0, none⟩ (.int .i64 0)).setCell ⟨w.heap.size, 1, none⟩ (.slice none 0 0) = W2 := ⟨_, rfl⟩
  have Q2 : Hid (Bkv W2 w.heap.size 0 (.slice none 0 0)) := by rw [← hW2]; exact Q1.out.put 0 _
  have T2 : Hid (Tch (fun j => j = w.heap.size) W1 W2) := by rw [← hW2]; exact (tch_set W1 _ 0 _).trans (tch_set _ _ 1 _) (fun _ _ e => e)
  have B2 : Hid (Below w.heap.size w W2) := B1.out.trans (T2.out.below B1.out.size (fun j e => by omega))
  have HLD := hideP Q2.out.load
  clear h hn hD hN
  go_enter Try.func22, Try.ntmps22
  go_wp2_with fail
  refine HT.out.mono ?_
  rintro e w' ⟨rfl, rfl⟩
  clear HT hW1
  go_wp2_with fail
  refine bodyPost_ret (v := .tuple #[blk 0 (.slice none 0 0), .int .i64 2]) (results_cellT (p := 4) (ty := 40) rfl _ _ _ w.heap.size _ _ rfl HLD.out rfl) rfl ?_
  exact ⟨rfl, Ch.to_below ⟨_, _, _, H.out⟩ B2.out⟩

theorem inf_held : (Try.prog.info? 81).map (·.size) = some 3 := by kernel_rfl

/-- So, and u lies apart from what the cache has for its own. -/
def ChToU (X : Nat → Prop) (w w' : World) (c d N : Nat) (s : CS) (u : Value) : Prop := ∃ X', Ch X' w' c d N s ∧ Tch X w w' ∧ (∀ k, X' k → X k ∨ w.heap.size ≤ k) ∧ ∀ j, u.ownBlock = some j → ¬ X' j
theorem Ch.toU {X : Nat → Prop} {w w' : World} {c d N : Nat} {s : CS} {u : Value} (h : Ch X w c d N s) (hb : Below w.heap.size w w') (hu : ∀ j, u.ownBlock = some j → w.heap.size ≤ j) : ChToU X w w' c d N s u :=
  ⟨X, h.below hb, Tch.of_below hb, fun _ e => .inl e, fun j hj e => by have := hu j hj; have := h.lt j e; omega⟩
theorem ChTo.nilU {X : Nat → Prop} {w w' : World} {c d N : Nat} {s : CS} (h : ChTo X w w' c d N s) : ChToU X w w' c d N s (.slice none 0 0) := by
  obtain ⟨X', h1, h2, h3⟩ := h
  exact ⟨X', h1, h2, h3, fun j hj => by cases hj⟩
/-- What Get tells of a block that is there. -/
def GotK (X : Nat → Prop) (w : World) (c d N : Nat) (s' : CS) (k : Int) (ys : List Int) (e : Ending) (w' : World) : Prop :=
  ∃ u, e = .returned (.tuple #[blk k u, .int .i64 0]) ∧ Nw w.heap.size w' u ys ∧ ChToU X w w' c d N s' u

set_option maxHeartbeats 1000000 in
theorem getK_dirty {X S : Nat → Prop} {c d N : Nat} {s : CS} {D : DS} (n : Nat) (w : World) (hC : Ch X w c d N s) (hD : Dk S w d D) (hN : D.L.length = N) (hn : n ∈ s.d) :
    Calls Try.prog 22 #[cp c, .int .i64 (n : Int)] w fun e w' => GotK X w c d N s (s.B n).1 (s.B n).2 e w' := by
  obtain ⟨mb, av, V, h⟩ := hC
  have H : Hid (ChAt X w c d N s mb av V) := h
  obtain ⟨W1, hW1⟩ : ∃ W1, w.alloc (.cells #[.int .i64 0, .slice none 0 0] 40) = W1 := ⟨_, rfl⟩
  have B1 : Hid (Below w.heap.size w W1) := by rw [← hW1]; exact (Below.refl _ _).alloc (Nat.le_refl _) _
  have Q1 : Hid (Bkv W1 w.heap.size 0 (.slice none 0 0)) := by rw [← hW1]; exact bkv_new w _ _
  have H1 : Hid (ChAt X W1 c d N s mb av V) := h.tch (R := fun _ => False) (Tch.of_below B1.out) (fun _ _ e => e)
  have HT := hideP (thereK_any (n : Int) W1 H1.out.c0 (hD.below B1.out))
  have hnn := h.ok.dl n hn
  have et : kthere D.L.length (n : Int) = true := kthere_iff.2 (by omega)
  rw [et] at HT
  have hn2 := h.n2
  have LK := H1.out.map.lookOk hnn.2 (by omega)
  have R1 : Hid (Rd .u8 W1 (V n) (s.B n).2) := H1.out.bod n (.inl hn)
  obtain ⟨k, hk⟩ : ∃ k, (s.B n).1 = k := ⟨_, rfl⟩
  obtain ⟨ys, hys⟩ : ∃ ys, (s.B n).2 = ys := ⟨_, rfl⟩
  obtain ⟨v, hv⟩ : ∃ v, V n = v := ⟨_, rfl⟩
  have eg : kg s V n = some (hent k v true) := by unfold kg; rw [if_pos hn, hk, hv]
  have HML : Hid (ys.length ≤ 140737488355328) := by
    have := (h.ok.may n (.inl hn)).1
    obtain ⟨_, _, _, _, m5⟩ := mayK_iff.1 this
    show _ ≤ _
    rw [← hys]; omega
  rw [hys, hv] at R1
  unfold gh at LK
  rw [eg] at LK
  simp only [Option.getD_some, Option.isSome_some] at LK
  unfold hent at LK
  rw [hk, hys]
  obtain ⟨a, m, cap, rfl⟩ : ∃ a m cap, v = .slice a m cap := by obtain ⟨a, c, e, _⟩ := R1.out; exact ⟨_, _, _, e⟩
  obtain ⟨W2, hW2⟩ : ∃ W2, W1.alloc (.cells #[.int .i64 k, .slice a m cap, .bool true] 81) = W2 := ⟨_, rfl⟩
  have b12 : Below W1.heap.size W1 W2 := by rw [← hW2]; exact (Below.refl _ _).alloc (Nat.le_refl _) _
  have s1 : W1.heap.size = w.heap.size + 1 := by rw [← hW1]; simp
  have B2 : Hid (Below w.heap.size w W2) := B1.out.trans (b12.mono (by omega))
  have Q2 : Hid (Bkv W2 w.heap.size 0 (.slice none 0 0)) := Q1.out.below b12
  have K2 : Hid (Hkv W2 (w.heap.size + 1) k (.slice a m cap) true) := by rw [← hW2, ← s1]; exact hkv_new W1 _ _ _
  have R2 : Hid (Rd .u8 W2 (.slice a m cap) ys) := R1.out.below b12
  have HOW := hideP (own_any k (.slice a m cap) ys W2 R2.out HML.out)
  have k0 := K2.out.c0
  have k1 := K2.out.c1
  have k2 := K2.out.c2
  have c2 := H1.out.c2
  have HW2 : Hid (W1.alloc (.cells #[.int .i64 k, .slice a m cap, .bool true] 81) = W2) := hW2
  have HS2 : Hid (W2.heap.size = w.heap.size + 2) := by show _ = _; rw [← hW2]; simp; omega
  clear h hn hD hN et hnn hn2 eg hk hys hv b12 hW2 R1 H1
  unfold blk at HOW
  go_enter Try.func22, Try.ntmps22
  go_wp2_with fail
  refine HT.out.mono ?_
  rintro e w' ⟨rfl, rfl⟩
  clear HT hW1
  go_wp2_with (with_reducible (show wpList _ _ _ (Oper.mk _ (Op.store _ _ _) _ _ _ _ :: _) _ _); refine wpList_store_newD _ rfl 81 (.tmp 6) (.tmp 22) rfl #[.int .i64 0, .slice none 0 0, .bool false] #[.int .i64 k, .slice a m cap, .bool true] rfl rfl inf_held rfl rfl ?_; rw [HW2.out])
  rw [HW2.out]
  refine HOW.out.mono ?_
  rintro e w3 ⟨u, rfl, hN3, hB3⟩
  have B3 : Hid (Below w.heap.size w w3) := B2.out.trans (hB3.mono B2.out.size)
  have Q3 : Hid (Bkv w3 w.heap.size 0 (.slice none 0 0)) := Q2.out.below hB3
  have N3 : Hid (Nw W2.heap.size w3 u ys) := hN3
  obtain ⟨ua, um, uc, rfl⟩ : ∃ a m cap, u = .slice a m cap := by obtain ⟨a, c, e, _⟩ := hN3.rd; exact ⟨_, _, _, e⟩
  have q0 := Q3.out.c0
  have q1 := Q3.out.c1
  have f0 := Q3.out.fz 0
  have f1 := Q3.out.fz 1
  obtain ⟨W4, hW4⟩ : ∃ W4, (w3.setCell ⟨w.heap.size, 0, none⟩ (.int .i64 k)).setCell ⟨w.heap.size, 1, none⟩ (.slice ua um uc) = W4 := ⟨_, rfl⟩
  have Q4 : Hid (Bkv W4 w.heap.size k (.slice ua um uc)) := by rw [← hW4]; exact Q3.out.put k _
  have T4 : Hid (Tch (fun j => j = w.heap.size) w3 W4) := by rw [← hW4]; exact (tch_set w3 _ 0 _).trans (tch_set _ _ 1 _) (fun _ _ e => e)
  have N4 : Hid (Nw w.heap.size W4 (.slice ua um uc) ys) := by
    have h1 : Nw W2.heap.size W4 (.slice ua um uc) ys := N3.out.tch T4.out (fun j hj e => by have h2 := N3.out.new j hj; have := HS2.out; omega)
    exact ⟨h1.rd, h1.fz, fun j hj => by have := h1.new j hj; have := HS2.out; omega⟩
  have HLD := hideP Q4.out.load
  have B4 : Hid (Below w.heap.size w W4) := B3.out.trans (T4.out.below B3.out.size (fun j e => by omega))
  clear hN3 hB3 HOW N3 Q3 T4 k0 k1 k2 HW2 c2 LK s1
  go_wp2_with fail
  refine bodyPost_ret (v := .tuple #[blk k (.slice ua um uc), .int .i64 0]) (results_cellT (p := 4) (ty := 40) rfl _ _ _ w.heap.size _ _ rfl HLD.out rfl) rfl ?_
  exact ⟨_, rfl, N4.out, Ch.toU ⟨_, _, _, H.out⟩ B4.out N4.out.new⟩
end Go.Proofs.Ytgpaklifjonlkaa
/-
  A clean block is asked.
-/
namespace Go.Proofs.Ytgpaklifjonlkaa
open Go.RowKit Go.Maps
set_option linter.unusedVariables false
set_option linter.unusedSimpArgs false
set_option maxRecDepth 100000

set_option maxHeartbeats 1000000 in
theorem getK_clean {X S : Nat → Prop} {c d N : Nat} {s : CS} {D : DS} (n : Nat) (w : World) (hC : Ch X w c d N s) (hD : Dk S w d D) (hN : D.L.length = N) (hn : n ∈ s.c) :
    Calls Try.prog 22 #[cp c, .int .i64 (n : Int)] w fun e w' => GotK X w c d N (s.keep n (s.B n)) (s.B n).1 (s.B n).2 e w' := by
  obtain ⟨mb, av, V, h⟩ := hC
  have H : Hid (ChAt X w c d N s mb av V) := h
  obtain ⟨W1, hW1⟩ : ∃ W1, w.alloc (.cells #[.int .i64 0, .slice none 0 0] 40) = W1 := ⟨_, rfl⟩
  have B1 : Hid (Below w.heap.size w W1) := by rw [← hW1]; exact (Below.refl _ _).alloc (Nat.le_refl _) _
  have Q1 : Hid (Bkv W1 w.heap.size 0 (.slice none 0 0)) := by rw [← hW1]; exact bkv_new w _ _
  have H1 : Hid (ChAt X W1 c d N s mb av V) := h.tch (R := fun _ => False) (Tch.of_below B1.out) (fun _ _ e => e)
  have HT := hideP (thereK_any (n : Int) W1 H1.out.c0 (hD.below B1.out))
  have hnn := h.ok.cl n hn
  have et : kthere D.L.length (n : Int) = true := kthere_iff.2 (by omega)
  rw [et] at HT
  have hn2 := h.n2
  have LK := H1.out.map.lookOk hnn.2 (by omega)
  have R1 : Hid (Rd .u8 W1 (V n) (s.B n).2) := H1.out.bod n (.inr hn)
  obtain ⟨k, hk⟩ : ∃ k, (s.B n).1 = k := ⟨_, rfl⟩
  obtain ⟨ys, hys⟩ : ∃ ys, (s.B n).2 = ys := ⟨_, rfl⟩
  obtain ⟨v, hv⟩ : ∃ v, V n = v := ⟨_, rfl⟩
  have eg : kg s V n = some (hent k v false) := by unfold kg; rw [if_neg (fun e => h.ok.ap n e hn), if_pos hn, hk, hv]
  have HML : Hid (ys.length ≤ 140737488355328) := by
    have := (h.ok.may n (.inr hn)).1
    obtain ⟨_, _, _, _, m5⟩ := mayK_iff.1 this
    show _ ≤ _
    rw [← hys]; omega
  rw [hys, hv] at R1
  unfold gh at LK
  rw [eg] at LK
  simp only [Option.getD_some, Option.isSome_some] at LK
  unfold hent at LK
  rw [hk, hys, show s.B n = (k, ys) by rw [← hk, ← hys]]
  obtain ⟨a, m, cap, rfl⟩ : ∃ a m cap, v = .slice a m cap := by obtain ⟨a, c, e, _⟩ := R1.out; exact ⟨_, _, _, e⟩
  obtain ⟨W2, hW2⟩ : ∃ W2, W1.alloc (.cells #[.int .i64 k, .slice a m cap, .bool false] 81) = W2 := ⟨_, rfl⟩
  have b12 : Below W1.heap.size W1 W2 := by rw [← hW2]; exact (Below.refl _ _).alloc (Nat.le_refl _) _
  have s1 : W1.heap.size = w.heap.size + 1 := by rw [← hW1]; simp
  have B2 : Hid (Below w.heap.size w W2) := B1.out.trans (b12.mono (by omega))
  have Q2 : Hid (Bkv W2 w.heap.size 0 (.slice none 0 0)) := Q1.out.below b12
  have K2 : Hid (Hkv W2 (w.heap.size + 1) k (.slice a m cap) false) := by rw [← hW2, ← s1]; exact hkv_new W1 _ _ _
  have R2 : Hid (Rd .u8 W2 (.slice a m cap) ys) := R1.out.below b12
  have H2 : Hid (ChAt X W2 c d N s mb av V) := H1.out.tch (R := fun _ => False) (Tch.of_below b12) (fun _ _ e => e)
  have HBN : Hid (s.B n = (k, ys)) := by show _ = _; rw [← hk, ← hys]
  have HKP := hideP (keep_any n k (.slice a m cap) ys W2 H2.out hnn (by have := (h.ok.may n (.inr hn)).1; rw [hk, hys] at this; exact this) (by have := (h.ok.may n (.inr hn)).2; rw [hys] at this; exact this) R2.out (fun j hj h0 => by
    have := h.bap n (.inr hn) j (by rw [hv]; exact hj) (by rw [hys]; exact h0)
    exact this))
  have k0 := K2.out.c0
  have k1 := K2.out.c1
  have k2 := K2.out.c2
  have c2 := H1.out.c2
  have HW2 : Hid (W1.alloc (.cells #[.int .i64 k, .slice a m cap, .bool false] 81) = W2) := hW2
  have HS2 : Hid (W2.heap.size = w.heap.size + 2) := by show _ = _; rw [← hW2]; simp; omega
  clear h hn hD hN et hnn hn2 eg hk hys hv b12 hW2 R1 H1
  unfold blk at HKP
  go_enter Try.func22, Try.ntmps22
  go_wp2_with fail
  refine HT.out.mono ?_
  rintro e w' ⟨rfl, rfl⟩
  clear HT hW1
  go_wp2_with (with_reducible (show wpList _ _ _ (Oper.mk _ (Op.store _ _ _) _ _ _ _ :: _) _ _); refine wpList_store_newD _ rfl 81 (.tmp 6) (.tmp 22) rfl #[.int .i64 0, .slice none 0 0, .bool false] #[.int .i64 k, .slice a m cap, .bool false] rfl rfl inf_held rfl rfl ?_; rw [HW2.out])
  rw [HW2.out]
  refine HKP.out.mono ?_
  rintro e w3 ⟨rfl, h3, r3⟩
  have QQ : Hid (Bkv w3 w.heap.size 0 (.slice none 0 0)) := by
    obtain ⟨_, _, t, _⟩ := h3
    exact Q2.out.tch t (fun e => by have := H.out.xlt _ e; omega)
  have K3 : Hid (Hkv w3 (w.heap.size + 1) k (.slice a m cap) false) := by
    obtain ⟨_, _, t, _⟩ := h3
    exact K2.out.tch t (fun e => by have := H.out.xlt _ e; omega)
  have HKE : Hid (∃ XK, Ch XK w3 c d N (s.keep n (k, ys)) ∧ Tch X w w3 ∧ (∀ j, XK j → X j ∨ w.heap.size ≤ j) ∧ ¬ XK w.heap.size) := by
    obtain ⟨XK, hK, t, hx⟩ := h3
    have hs := HS2.out
    exact ⟨XK, hK, (Tch.of_below B2.out).trans t (fun _ _ e => e), fun j hj => (hx j hj).imp id (fun e => by omega), fun e => by
      rcases hx _ e with e | e
      · have := H.out.xlt _ e; omega
      · omega⟩
  have HOW := hideP (own_any k (.slice a m cap) ys w3 r3 HML.out)
  unfold blk at HOW
  have x0 := K3.out.c0
  have x1 := K3.out.c1
  clear h3 r3 HKP k0 k1 k2 HW2 c2 LK s1 Q2 K2 R2 H2
  go_wp2_with fail
  refine HOW.out.mono ?_
  rintro e w4 ⟨u, rfl, hN4, hB4⟩
  have Q4 : Hid (Bkv w4 w.heap.size 0 (.slice none 0 0)) := QQ.out.below hB4
  have N4 : Hid (Nw w3.heap.size w4 u ys) := hN4
  have HB4 : Hid (Below w3.heap.size w3 w4) := hB4
  obtain ⟨ua, um, uc, rfl⟩ : ∃ a m cap, u = .slice a m cap := by obtain ⟨a, c, e, _⟩ := hN4.rd; exact ⟨_, _, _, e⟩
  have z0 := Q4.out.c0
  have z1 := Q4.out.c1
  have g0 := Q4.out.fz 0
  have g1 := Q4.out.fz 1
  obtain ⟨WF, hWF⟩ : ∃ WF, (w4.setCell ⟨w.heap.size, 0, none⟩ (.int .i64 k)).setCell ⟨w.heap.size, 1, none⟩ (.slice ua um uc) = WF := ⟨_, rfl⟩
  have QF : Hid (Bkv WF w.heap.size k (.slice ua um uc)) := by rw [← hWF]; exact Q4.out.put k _
  have TF : Hid (Tch (fun j => j = w.heap.size) w4 WF) := by rw [← hWF]; exact (tch_set w4 _ 0 _).trans (tch_set _ _ 1 _) (fun _ _ e => e)
  have HQL : Hid (w.heap.size < w3.heap.size) := QQ.out.lt
  have NF : Hid (Nw w.heap.size WF (.slice ua um uc) ys) := by
    have h1 : Nw w3.heap.size WF (.slice ua um uc) ys := N4.out.tch TF.out (fun j hj e => by have h2 := N4.out.new j hj; have := HQL.out; omega)
    exact ⟨h1.rd, h1.fz, fun j hj => by have := h1.new j hj; have := HQL.out; omega⟩
  have HLD := hideP QF.out.load
  have HNU : Hid (∀ j, (Value.slice ua um uc).ownBlock = some j → w3.heap.size ≤ j) := N4.out.new
  have HFIN : Hid (ChToU X w WF c d N (s.keep n (k, ys)) (.slice ua um uc)) := by
    obtain ⟨XK, hCK, tK, hxK⟩ := HKE.out
    have t1 : Tch (fun j => j = w.heap.size) w3 WF := (Tch.of_below HB4.out).trans TF.out (fun _ _ e => e)
    refine ⟨XK, hCK.tch t1 (fun j hj e => hxK.2 (by rw [← e]; exact hj)), tK.trans t1 (fun j hj e => by omega), hxK.1, fun j hj e => by have := hCK.lt j e; have := HNU.out j hj; omega⟩
  clear hN4 hB4 HOW N4 Q4 TF
  go_wp2_with fail
  refine bodyPost_ret (v := .tuple #[blk k (.slice ua um uc), .int .i64 0]) (results_cellT (p := 4) (ty := 40) rfl _ _ _ w.heap.size _ _ rfl HLD.out rfl) rfl ?_
  exact ⟨_, rfl, NF.out, HFIN.out⟩
end Go.Proofs.Ytgpaklifjonlkaa
/-
  A block is asked that is not in the cache.
-/
namespace Go.Proofs.Ytgpaklifjonlkaa
open Go.RowKit Go.Maps
set_option linter.unusedVariables false
set_option linter.unusedSimpArgs false
set_option maxRecDepth 100000

theorem getE_may {n : Int} {xs : List Int} (hb : By xs) (h : getE n xs = 0) : mayK n (getB n xs).1 (getB n xs).2.length = true ∧ By (getB n xs).2 := by
  have e : getB n xs = (xs.getD 0 0, bdy xs) := by unfold getB; rw [if_pos h]
  rw [e]
  refine ⟨?_, bdy_by hb⟩
  unfold getE at h
  split at h
  · cases h
  · split at h
    · cases h
    · split at h
      · rename_i h1; exact h1.1
      · cases h

set_option maxHeartbeats 1000000 in
theorem getK_bad {X S : Nat → Prop} {c d N : Nat} {s : CS} {D : DS} (n : Nat) (w : World) (hC : Ch X w c d N s) (hD : Dk S w d D) (hN : D.L.length = N) (hnn : 50 ≤ n ∧ n < N) (hnd : n ∉ s.d) (hnc : n ∉ s.c) (hE : getE (n : Int) (D.has n) ≠ 0) :
    Calls Try.prog 22 #[cp c, .int .i64 (n : Int)] w fun e w' => e = .returned (.tuple #[blk 0 (.slice none 0 0), .int .i64 (getE (n : Int) (D.has n))]) ∧ ChTo X w w' c d N s := by
  obtain ⟨mb, av, V, h⟩ := hC
  have H : Hid (ChAt X w c d N s mb av V) := h
  obtain ⟨W1, hW1⟩ : ∃ W1, w.alloc (.cells #[.int .i64 0, .slice none 0 0] 40) = W1 := ⟨_, rfl⟩
  have B1 : Hid (Below w.heap.size w W1) := by rw [← hW1]; exact (Below.refl _ _).alloc (Nat.le_refl _) _
  have Q1 : Hid (Bkv W1 w.heap.size 0 (.slice none 0 0)) := by rw [← hW1]; exact bkv_new w _ _
  have H1 : Hid (ChAt X W1 c d N s mb av V) := h.tch (R := fun _ => False) (Tch.of_below B1.out) (fun _ _ e => e)
  have HT := hideP (thereK_any (n : Int) W1 H1.out.c0 (hD.below B1.out))
  have et : kthere D.L.length (n : Int) = true := kthere_iff.2 (by omega)
  rw [et] at HT
  have hn2 := h.n2
  have LK := H1.out.map.lookOk hnn.2 (by omega)
  have eg : kg s V n = none := by unfold kg; rw [if_neg hnd, if_neg hnc]
  unfold gh at LK
  rw [eg] at LK
  simp only [Option.getD_none, Option.isSome_none] at LK
  unfold hent0 hent at LK
  obtain ⟨W2, hW2⟩ : ∃ W2, W1.alloc (.cells #[.int .i64 0, .slice none 0 0, .bool false] 81) = W2 := ⟨_, rfl⟩
  have b12 : Below W1.heap.size W1 W2 := by rw [← hW2]; exact (Below.refl _ _).alloc (Nat.le_refl _) _
  have s1 : W1.heap.size = w.heap.size + 1 := by rw [← hW1]; simp
  have B2 : Hid (Below w.heap.size w W2) := B1.out.trans (b12.mono (by omega))
  have Q2 : Hid (Bkv W2 w.heap.size 0 (.slice none 0 0)) := Q1.out.below b12
  have K2 : Hid (Hkv W2 (w.heap.size + 1) 0 (.slice none 0 0) false) := by rw [← hW2, ← s1]; exact hkv_new W1 _ _ _
  have H2 : Hid (ChAt X W2 c d N s mb av V) := H1.out.tch (R := fun _ => False) (Tch.of_below b12) (fun _ _ e => e)
  have HRE := hideP (read_any n W2 H2.out.c0 (hD.below B2.out) (by omega))
  have c2 := H1.out.c2
  have HW2 : Hid (W1.alloc (.cells #[.int .i64 0, .slice none 0 0, .bool false] 81) = W2) := hW2
  have HS2 : Hid (W2.heap.size = w.heap.size + 2) := by show _ = _; rw [← hW2]; simp; omega
  obtain ⟨xs, hxs⟩ : ∃ xs, D.has n = xs := ⟨_, rfl⟩
  have HX : Hid (By xs) := by rw [← hxs]; exact (hD.has_ok (by omega)).2
  rw [hxs] at hE HRE ⊢
  obtain ⟨ec, hec⟩ : ∃ ec, getE (n : Int) xs = ec := ⟨_, rfl⟩
  rw [hec] at hE ⊢
  have HEC : Hid (getE (n : Int) xs = ec) := hec
  have hE1 : (ec == 0) = false := by rw [beq_eq_false_iff_ne]; exact hE
  have hE2 : (ec != 0) = true := by rw [bne, hE1]; rfl
  clear h hD hN et hnn hn2 eg b12 hW2 H1 hnd hnc hxs hec
  go_enter Try.func22, Try.ntmps22
  go_wp2_with fail
  refine HT.out.mono ?_
  rintro e w' ⟨rfl, rfl⟩
  clear HT hW1
  go_wp2_with (with_reducible (show wpList _ _ _ (Oper.mk _ (Op.store _ _ _) _ _ _ _ :: _) _ _); refine wpList_store_newD _ rfl 81 (.tmp 6) (.tmp 22) rfl #[.int .i64 0, .slice none 0 0, .bool false] #[.int .i64 0, .slice none 0 0, .bool false] rfl rfl inf_held rfl rfl ?_; rw [HW2.out])
  rw [HW2.out]
  refine HRE.out.mono ?_
  rintro e w3 ⟨v, rfl, hr3, hb3, hn3⟩
  rw [HEC.out]
  have B3 : Hid (Below w.heap.size w w3) := B2.out.trans (hb3.mono B2.out.size)
  have Q3 : Hid (Bkv w3 w.heap.size 0 (.slice none 0 0)) := Q2.out.below hb3
  obtain ⟨k, hk⟩ : ∃ k, (getB (n : Int) xs).1 = k := ⟨_, rfl⟩
  rw [hk]
  obtain ⟨a, m, cap, rfl⟩ : ∃ a m cap, v = .slice a m cap := by obtain ⟨a, c, e, _⟩ := hr3; exact ⟨_, _, _, e⟩
  obtain ⟨W4, hW4⟩ : ∃ W4, w3.alloc (.cells #[.int .i64 k, .slice a m cap] 40) = W4 := ⟨_, rfl⟩
  have b34 : Below w3.heap.size w3 W4 := by rw [← hW4]; exact (Below.refl _ _).alloc (Nat.le_refl _) _
  have B4 : Hid (Below w.heap.size w W4) := B3.out.trans (b34.mono B3.out.size)
  have Q4 : Hid (Bkv W4 w.heap.size 0 (.slice none 0 0)) := Q3.out.below b34
  have z0 := Q4.out.c0
  have z1 := Q4.out.c1
  have g0 := Q4.out.fz 0
  have g1 := Q4.out.fz 1
  obtain ⟨WF, hWF⟩ : ∃ WF, (W4.setCell ⟨w.heap.size, 0, none⟩ (.int .i64 0)).setCell ⟨w.heap.size, 1, none⟩ (.slice none 0 0) = WF := ⟨_, rfl⟩
  have QF : Hid (Bkv WF w.heap.size 0 (.slice none 0 0)) := by rw [← hWF]; exact Q4.out.put 0 _
  have TF : Hid (Tch (fun j => j = w.heap.size) W4 WF) := by rw [← hWF]; exact (tch_set W4 _ 0 _).trans (tch_set _ _ 1 _) (fun _ _ e => e)
  have BF : Hid (Below w.heap.size w WF) := B4.out.trans (TF.out.below B4.out.size (fun j e => by omega))
  have HLD := hideP QF.out.load
  clear hr3 hb3 hn3 hk b34 HRE Q2 Q3 B3 B2 K2 H2 LK c2 HW2 s1
  unfold blk
  go_wp2_with fail
  refine bodyPost_ret (v := .tuple #[blk 0 (.slice none 0 0), .int .i64 ec]) (results_cellT (p := 4) (ty := 40) rfl _ _ _ w.heap.size _ _ rfl HLD.out rfl) rfl ?_
  exact ⟨rfl, Ch.to_below ⟨_, _, _, H.out⟩ BF.out⟩

set_option maxHeartbeats 1000000 in
theorem getK_new {X S : Nat → Prop} {c d N : Nat} {s : CS} {D : DS} (n : Nat) (w : World) (hC : Ch X w c d N s) (hD : Dk S w d D) (hN : D.L.length = N) (hnn : 50 ≤ n ∧ n < N) (hnd : n ∉ s.d) (hnc : n ∉ s.c) (hE : getE (n : Int) (D.has n) = 0) :
    Calls Try.prog 22 #[cp c, .int .i64 (n : Int)] w fun e w' => GotK X w c d N (s.keep n (getB (n : Int) (D.has n))) (getB (n : Int) (D.has n)).1 (getB (n : Int) (D.has n)).2 e w' := by
  obtain ⟨mb, av, V, h⟩ := hC
  have H : Hid (ChAt X w c d N s mb av V) := h
  obtain ⟨W1, hW1⟩ : ∃ W1, w.alloc (.cells #[.int .i64 0, .slice none 0 0] 40) = W1 := ⟨_, rfl⟩
  have B1 : Hid (Below w.heap.size w W1) := by rw [← hW1]; exact (Below.refl _ _).alloc (Nat.le_refl _) _
  have Q1 : Hid (Bkv W1 w.heap.size 0 (.slice none 0 0)) := by rw [← hW1]; exact bkv_new w _ _
  have H1 : Hid (ChAt X W1 c d N s mb av V) := h.tch (R := fun _ => False) (Tch.of_below B1.out) (fun _ _ e => e)
  have HT := hideP (thereK_any (n : Int) W1 H1.out.c0 (hD.below B1.out))
  have et : kthere D.L.length (n : Int) = true := kthere_iff.2 (by omega)
  rw [et] at HT
  have hn2 := h.n2
  have LK := H1.out.map.lookOk hnn.2 (by omega)
  have eg : kg s V n = none := by unfold kg; rw [if_neg hnd, if_neg hnc]
  unfold gh at LK
  rw [eg] at LK
  simp only [Option.getD_none, Option.isSome_none] at LK
  unfold hent0 hent at LK
  obtain ⟨W2, hW2⟩ : ∃ W2, W1.alloc (.cells #[.int .i64 0, .slice none 0 0, .bool false] 81) = W2 := ⟨_, rfl⟩
  have b12 : Below W1.heap.size W1 W2 := by rw [← hW2]; exact (Below.refl _ _).alloc (Nat.le_refl _) _
  have s1 : W1.heap.size = w.heap.size + 1 := by rw [← hW1]; simp
  have B2 : Hid (Below w.heap.size w W2) := B1.out.trans (b12.mono (by omega))
  have Q2 : Hid (Bkv W2 w.heap.size 0 (.slice none 0 0)) := Q1.out.below b12
  have K2 : Hid (Hkv W2 (w.heap.size + 1) 0 (.slice none 0 0) false) := by rw [← hW2, ← s1]; exact hkv_new W1 _ _ _
  have H2 : Hid (ChAt X W2 c d N s mb av V) := H1.out.tch (R := fun _ => False) (Tch.of_below b12) (fun _ _ e => e)
  have HRE := hideP (read_any n W2 H2.out.c0 (hD.below B2.out) (by omega))
  have c2 := H1.out.c2
  have HW2 : Hid (W1.alloc (.cells #[.int .i64 0, .slice none 0 0, .bool false] 81) = W2) := hW2
  have HS2 : Hid (W2.heap.size = w.heap.size + 2) := by show _ = _; rw [← hW2]; simp; omega
  obtain ⟨xs, hxs⟩ : ∃ xs, D.has n = xs := ⟨_, rfl⟩
  have HX : Hid (By xs) := by rw [← hxs]; exact (hD.has_ok (by omega)).2
  rw [hxs] at hE HRE ⊢
  obtain ⟨x, hx⟩ : ∃ x, getB (n : Int) xs = x := ⟨_, rfl⟩
  obtain ⟨k, ys⟩ := x
  have HMY := hideP (getE_may (n := (n : Int)) HX.out hE)
  rw [hx] at HMY ⊢
  have HEC : Hid (getE (n : Int) xs = 0 ∧ getB (n : Int) xs = (k, ys)) := ⟨hE, hx⟩
  have HNN : Hid (50 ≤ n ∧ n < N) := hnn
  have HML : Hid (ys.length ≤ 140737488355328) := by
    obtain ⟨_, _, _, _, m5⟩ := mayK_iff.1 HMY.out.1
    show _ ≤ _
    have : ys.length ≤ 240 := m5
    omega
  clear h hD hN et hnn hn2 eg b12 hW2 H1 hnd hnc hxs hE hx
  go_enter Try.func22, Try.ntmps22
  go_wp2_with fail
  refine HT.out.mono ?_
  rintro e w' ⟨rfl, rfl⟩
  clear HT hW1
  go_wp2_with (with_reducible (show wpList _ _ _ (Oper.mk _ (Op.store _ _ _) _ _ _ _ :: _) _ _); refine wpList_store_newD _ rfl 81 (.tmp 6) (.tmp 22) rfl #[.int .i64 0, .slice none 0 0, .bool false] #[.int .i64 0, .slice none 0 0, .bool false] rfl rfl inf_held rfl rfl ?_; rw [HW2.out])
  rw [HW2.out]
  refine HRE.out.mono ?_
  rintro e w3 ⟨v, rfl, hr3, hb3, hn3⟩
  rw [HEC.out.1, HEC.out.2] at *
  have hr3 : Rd .u8 w3 v ys := hr3
  have B3 : Hid (Below w.heap.size w w3) := B2.out.trans (hb3.mono B2.out.size)
  have Q3 : Hid (Bkv w3 w.heap.size 0 (.slice none 0 0)) := Q2.out.below hb3
  have K3 : Hid (Hkv w3 (w.heap.size + 1) 0 (.slice none 0 0) false) := K2.out.below hb3
  have N3 : Hid (∀ j, v.ownBlock = some j → w.heap.size + 2 ≤ j) := fun j hj => by have := hn3 j hj; have := HS2.out; omega
  obtain ⟨a, m, cap, rfl⟩ : ∃ a m cap, v = .slice a m cap := by obtain ⟨a, c, e, _⟩ := hr3; exact ⟨_, _, _, e⟩
  obtain ⟨W4, hW4⟩ : ∃ W4, w3.alloc (.cells #[.int .i64 k, .slice a m cap] 40) = W4 := ⟨_, rfl⟩
  have b34 : Below w3.heap.size w3 W4 := by rw [← hW4]; exact (Below.refl _ _).alloc (Nat.le_refl _) _
  have B4 : Hid (Below w.heap.size w W4) := B3.out.trans (b34.mono B3.out.size)
  have K4 : Hid (Hkv W4 (w.heap.size + 1) 0 (.slice none 0 0) false) := K3.out.below b34
  have Q4 : Hid (Bkv W4 w.heap.size 0 (.slice none 0 0)) := Q3.out.below b34
  have G4 : Hid (Bkv W4 w3.heap.size k (.slice a m cap)) := by rw [← hW4]; exact bkv_new w3 _ _
  have R4 : Hid (Rd .u8 W4 (.slice a m cap) ys) := hr3.below b34
  have y0 := G4.out.c0
  have y1 := G4.out.c1
  have e0 := K4.out.c0
  have e1 := K4.out.c1
  have e2 := K4.out.c2
  have j0 := K4.out.fz 0
  have j1 := K4.out.fz 1
  have j2 := K4.out.fz 2
  obtain ⟨W5, hW5⟩ : ∃ W5, ((W4.setCell ⟨w.heap.size + 1, 0, none⟩ (.int .i64 k)).setCell ⟨w.heap.size + 1, 1, none⟩ (.slice a m cap)).setCell ⟨w.heap.size + 1, 2, none⟩ (.bool false) = W5 := ⟨_, rfl⟩
  have K5 : Hid (Hkv W5 (w.heap.size + 1) k (.slice a m cap) false) := by
    rw [← hW5]
    have h1 := heap_setCell_same W4 (w.heap.size + 1) 0 _ _ (.int .i64 k) K4.out
    have h2 := heap_setCell_same _ (w.heap.size + 1) 1 _ _ (.slice a m cap) h1
    exact heap_setCell_same _ (w.heap.size + 1) 2 _ _ (.bool false) h2
  have T5 : Hid (Tch (fun j => j = w.heap.size + 1) W4 W5) := by rw [← hW5]; exact ((tch_set W4 _ 0 _).trans (tch_set _ _ 1 _) (fun _ _ e => e)).trans (tch_set _ _ 2 _) (fun _ _ e => e)
  have B5 : Hid (Below w.heap.size w W5) := B4.out.trans (T5.out.below B4.out.size (fun j e => by omega))
  have Q5 : Hid (Bkv W5 w.heap.size 0 (.slice none 0 0)) := Q4.out.tch T5.out (fun e => by omega)
  have R5 : Hid (Rd .u8 W5 (.slice a m cap) ys) := R4.out.tch T5.out (fun j hj e => by have := N3.out j hj; omega)
  obtain ⟨X', hX'⟩ : ∃ X' : Nat → Prop, (fun j => X j ∨ ((Value.slice a m cap).ownBlock = some j ∧ ys ≠ [])) = X' := ⟨_, rfl⟩
  have H5 : Hid (ChAt X' W5 c d N s mb av V) := by
    rw [← hX']
    refine (H.out.tch (R := fun _ => False) (Tch.of_below B5.out) (fun _ _ e => e)).wide (fun j hj => .inl hj) (fun j hj => ?_)
    rcases hj with e | ⟨e, e0⟩
    · exact Nat.lt_of_lt_of_le (H.out.xlt j e) B5.out.size
    · exact R5.out.blk_lt e0 e
  have HX5 : Hid ((∀ j, X' j → X j ∨ w.heap.size + 2 ≤ j) ∧ ∀ j, (Value.slice a m cap).ownBlock = some j → ys ≠ [] → X' j ∧ j ≠ c ∧ j ≠ mb ∧ av.ownBlock ≠ some j) := by
    rw [← hX']
    refine ⟨fun j hj => hj.imp id (fun e => N3.out j e.1), fun j hj h0 => ⟨.inr ⟨hj, h0⟩, ?_, ?_, fun e => ?_⟩⟩
    · have := N3.out j hj; have := H.out.lt; omega
    · have := N3.out j hj; have := H.out.xlt _ H.out.xm; omega
    · have := N3.out j hj; have := H.out.xlt _ (H.out.xa j e); omega
  have HKP := hideP (keep_any n k (.slice a m cap) ys W5 H5.out HNN.out HMY.out.1 HMY.out.2 R5.out HX5.out.2)
  have i0 := K5.out.c0
  have i1 := K5.out.c1
  have i2 := K5.out.c2
  have HZ5 : Hid (w.heap.size + 2 ≤ W5.heap.size) := by have := K5.out.lt; exact this
  clear hr3 hb3 hn3 b34 HRE Q2 Q3 B3 B2 K2 K3 H2 LK c2 HW2 s1 R4 T5 B4 Q4 hX'
  unfold blk at HKP ⊢
  go_wp2_with fail
  refine HKP.out.mono ?_
  rintro e w6 ⟨rfl, h6, r6⟩
  have NX : Hid (∀ j, j < w.heap.size + 2 → w.heap.size ≤ j → ¬ X' j) := fun j h1 h2 e => by
    rcases HX5.out.1 j e with e | e
    · have := H.out.xlt _ e; omega
    · omega
  have QQ : Hid (Bkv w6 w.heap.size 0 (.slice none 0 0)) := by
    obtain ⟨_, _, t, _⟩ := h6
    exact Q5.out.tch t (NX.out _ (by omega) (by omega))
  have K6 : Hid (Hkv w6 (w.heap.size + 1) k (.slice a m cap) false) := by
    obtain ⟨_, _, t, _⟩ := h6
    exact K5.out.tch t (NX.out _ (by omega) (by omega))
  have HKE : Hid (∃ XK, Ch XK w6 c d N (s.keep n (k, ys)) ∧ Tch X w w6 ∧ (∀ j, XK j → X j ∨ w.heap.size ≤ j) ∧ ¬ XK w.heap.size) := by
    obtain ⟨XK, hK, t, hx⟩ := h6
    have hs := HZ5.out
    refine ⟨XK, hK, (Tch.of_below B5.out).trans t (fun j hj e => ?_), fun j hj => ?_, fun e => ?_⟩
    · rcases HX5.out.1 j e with e | e
      · exact e
      · omega
    · rcases hx j hj with e | e
      · exact (HX5.out.1 j e).imp id (fun e => by omega)
      · exact .inr (by omega)
    · rcases hx _ e with e | e
      · exact NX.out _ (by omega) (by omega) e
      · omega
  have HOW := hideP (own_any k (.slice a m cap) ys w6 r6 HML.out)
  unfold blk at HOW
  have x0 := K6.out.c0
  have x1 := K6.out.c1
  clear h6 r6 HKP y0 y1 e0 e1 e2 j0 j1 j2 i0 i1 i2 hW5 hW4 Q5 K5 R5 H5
  go_wp2_with fail
  refine HOW.out.mono ?_
  rintro e w7 ⟨u, rfl, hN7, hB7⟩
  have Q7 : Hid (Bkv w7 w.heap.size 0 (.slice none 0 0)) := QQ.out.below hB7
  have N7 : Hid (Nw w6.heap.size w7 u ys) := hN7
  have HB7 : Hid (Below w6.heap.size w6 w7) := hB7
  obtain ⟨ua, um, uc, rfl⟩ : ∃ a m cap, u = .slice a m cap := by obtain ⟨a, c, e, _⟩ := hN7.rd; exact ⟨_, _, _, e⟩
  have z0 := Q7.out.c0
  have z1 := Q7.out.c1
  have g0 := Q7.out.fz 0
  have g1 := Q7.out.fz 1
  obtain ⟨WF, hWF⟩ : ∃ WF, (w7.setCell ⟨w.heap.size, 0, none⟩ (.int .i64 k)).setCell ⟨w.heap.size, 1, none⟩ (.slice ua um uc) = WF := ⟨_, rfl⟩
  have QF : Hid (Bkv WF w.heap.size k (.slice ua um uc)) := by rw [← hWF]; exact Q7.out.put k _
  have TF : Hid (Tch (fun j => j = w.heap.size) w7 WF) := by rw [← hWF]; exact (tch_set w7 _ 0 _).trans (tch_set _ _ 1 _) (fun _ _ e => e)
  have HQL : Hid (w.heap.size < w6.heap.size) := QQ.out.lt
  have NF : Hid (Nw w.heap.size WF (.slice ua um uc) ys) := by
    have h1 : Nw w6.heap.size WF (.slice ua um uc) ys := N7.out.tch TF.out (fun j hj e => by have h2 := N7.out.new j hj; have := HQL.out; omega)
    exact ⟨h1.rd, h1.fz, fun j hj => by have := h1.new j hj; have := HQL.out; omega⟩
  have HLD := hideP QF.out.load
  have HNU : Hid (∀ j, (Value.slice ua um uc).ownBlock = some j → w6.heap.size ≤ j) := N7.out.new
  have HFIN : Hid (ChToU X w WF c d N (s.keep n (k, ys)) (.slice ua um uc)) := by
    obtain ⟨XK, hCK, tK, hxK⟩ := HKE.out
    have t1 : Tch (fun j => j = w.heap.size) w6 WF := (Tch.of_below HB7.out).trans TF.out (fun _ _ e => e)
    refine ⟨XK, hCK.tch t1 (fun j hj e => hxK.2 (by rw [← e]; exact hj)), tK.trans t1 (fun j hj e => by omega), hxK.1, fun j hj e => by have := hCK.lt j e; have := HNU.out j hj; omega⟩
  clear hN7 hB7 HOW N7 Q7 TF
  go_wp2_with fail
  refine bodyPost_ret (v := .tuple #[blk k (.slice ua um uc), .int .i64 0]) (results_cellT (p := 4) (ty := 40) rfl _ _ _ w.heap.size _ _ rfl HLD.out rfl) rfl ?_
  exact ⟨_, rfl, NF.out, HFIN.out⟩

/-- Get, for whatever is asked. -/
theorem getK_any {X S : Nat → Prop} {c d N : Nat} {s : CS} {D : DS} (n : Int) (w : World) (hC : Ch X w c d N s) (hD : Dk S w d D) (hN : D.L.length = N) :
    Calls Try.prog 22 #[cp c, .int .i64 n] w fun e w' => ∃ u, e = .returned (.tuple #[blk (s.getB D n).1 u, .int .i64 (s.getE D n)]) ∧ Nw w.heap.size w' u (s.getB D n).2 ∧ ChToU X w w' c d N (s.getS D n) u := by
  cases h1 : kthere N n with
  | false =>
    have e1 : s.getE D n = 2 := by unfold CS.getE; rw [hN, h1]; rfl
    have e2 : s.getB D n = (0, []) := by unfold CS.getB; rw [hN, h1]; rfl
    have e3 : s.getS D n = s := by unfold CS.getS; rw [e1]; rfl
    rw [e1, e2, e3]
    refine (getK_range n w hC hD hN h1).mono ?_
    rintro e w' ⟨rfl, h⟩
    exact ⟨_, rfl, Nw.nil _ _, h.nilU⟩
  | true =>
    obtain ⟨i, rfl⟩ : ∃ i : Nat, n = (i : Int) := ⟨n.toNat, by have := (kthere_iff.1 h1).1; omega⟩
    have hi := kthere_iff.1 h1
    by_cases hd : i ∈ s.d
    · have e1 : s.getE D (i : Int) = 0 := by unfold CS.getE; rw [hN, h1, if_pos rfl, if_pos (.inl hd)]
      have e2 : s.getB D (i : Int) = s.B i := by unfold CS.getB; rw [hN, h1, if_pos rfl, if_pos (.inl hd)]; rfl
      have e3 : s.getS D (i : Int) = s := by unfold CS.getS; rw [if_neg (fun e => e.2 hd)]
      rw [e1, e2, e3]
      exact getK_dirty i w hC hD hN hd
    · by_cases hc : i ∈ s.c
      · have e1 : s.getE D (i : Int) = 0 := by unfold CS.getE; rw [hN, h1, if_pos rfl, if_pos (.inr hc)]
        have e2 : s.getB D (i : Int) = s.B i := by unfold CS.getB; rw [hN, h1, if_pos rfl, if_pos (.inr hc)]; rfl
        have e3 : s.getS D (i : Int) = s.keep i (s.B i) := by unfold CS.getS; rw [if_pos ⟨e1, hd⟩, e2]; rfl
        rw [e1, e2, e3]
        exact getK_clean i w hC hD hN hc
      · have e1 : s.getE D (i : Int) = getE (i : Int) (D.has i) := by unfold CS.getE; rw [hN, h1, if_pos rfl, if_neg (fun e => e.elim hd hc)]; rfl
        have e2 : s.getB D (i : Int) = getB (i : Int) (D.has i) := by unfold CS.getB; rw [hN, h1, if_pos rfl, if_neg (fun e => e.elim hd hc)]; rfl
        by_cases he : getE (i : Int) (D.has i) = 0
        · have e3 : s.getS D (i : Int) = s.keep i (getB (i : Int) (D.has i)) := by unfold CS.getS; rw [if_pos ⟨e1.trans he, hd⟩, e2]; rfl
          rw [e1, e2, e3, he]
          exact getK_new i w hC hD hN (by omega) hd hc he
        · have e3 : s.getS D (i : Int) = s := by unfold CS.getS; rw [if_neg (fun e => he (e1.symm.trans e.1))]
          have e4 : getB (i : Int) (D.has i) = (0, []) := by unfold getB; rw [if_neg he]
          rw [e1, e2, e3, e4]
          refine (getK_bad i w hC hD hN (by omega) hd hc he).mono ?_
          rintro e w' ⟨rfl, h⟩
          exact ⟨_, rfl, Nw.nil _ _, h.nilU⟩
end Go.Proofs.Ytgpaklifjonlkaa
