import Derived.Test.YtdicgaepggffbaaUH21
import Derived.Test.YtdicgaepggffbaaUH22
import Derived.Test.YtdicgaepggffbaaUH24
import Derived.Test.YtdicgaepggffbaaUH03
import Derived.Lib.SlBytesConst
/-
  The document's Put of superblocks.
-/
namespace Go.Proofs.Ytdicgaepggffbaa
open Go.RowKit Pl
set_option linter.unusedVariables false
set_option linter.unusedSimpArgs false
set_option maxRecDepth 100000

/-- What the document tells of a superblock that is to be put. -/
def PutV (s : Sp) (w : World) (e : Ending) (w' : World) : Prop :=
  ∃ v c, e = .returned (.tuple #[v, .int .i64 c]) ∧ Below w.heap.size w w' ∧ (∀ j, v.ownBlock = some j → w.heap.size ≤ j) ∧
    ((mayU s = true ∧ c = 0 ∧ Owns .u8 5 w' v (usec s)) ∨ (mayU s = false ∧ c = 1 ∧ v = .slice none 0 0))

/-- Bytes lie in no block of another type. -/
theorem Owns.ne_blkU {w : World} {v : Value} {xs : List Int} {b : Nat} {cs : Array Value} {t : TypeId} (h : Owns .u8 5 w v xs) (hb : w.heap[b]? = some (.cells cs t (0, 0))) (ht : t ≠ 5) : v.ownBlock ≠ some b := by
  intro hk
  have h' : w.ownsRow 0 5 1 v xs.length (xs.map (Value.int .u8)) := h
  rcases h'.2 with ⟨rfl, _⟩ | ⟨g, cap, cur, rfl, _, hg, _⟩
  · cases hk
  · cases hk
    rw [hg] at hb
    simp at hb
    exact ht hb.2.symm
theorem fulU_lit (w : World) (xs : List Int) (fz : Nat × Nat) : Ful (w.alloc (.cells (xs.map (Value.int .u8)).toArray 5 fz)) (.slice (some ⟨w.heap.size, 0, none⟩) xs.length xs.length) xs := by
  refine ⟨w.heap.size, rfl, fun i hi => ?_⟩
  have h : (w.alloc (.cells (xs.map (Value.int .u8)).toArray 5 fz)).heap[w.heap.size]? = some (.cells (xs.map (Value.int .u8)).toArray 5 fz) := heap_alloc_new w _
  rw [cell_of_row _ _ i _ _ fz h]
  simp [List.getD_eq_getElem?_getD, hi]

/-- The bytes so far, since wb. -/
def Out (wb wr : World) (v : Value) (xs : List Int) : Prop := Owns .u8 5 wr v xs ∧ Below wb.heap.size wb wr ∧ ∀ j, v.ownBlock = some j → wb.heap.size ≤ j
theorem Out.grew {wb w w' : World} {v v' : Value} {xs ys : List Int} (h : Out wb w v xs) (ho : Owns .u8 5 w' v' ys) (hg : Grew w w' v v') : Out wb w' v' ys := by
  have := hg.onto h.2.1 h.2.2
  exact ⟨ho, this.1, this.2⟩
theorem Out.below {wb w w' : World} {v : Value} {xs : List Int} (h : Out wb w v xs) (hb : Below w.heap.size w w') : Out wb w' v xs := ⟨h.1.below hb, h.2.1.trans (hb.mono h.2.1.size), h.2.2⟩
theorem Out.uv {wb w w' : World} {v v' : Value} {xs : List Int} {g : Nat} {s : Sp} {u : Value} (h : Out wb w v xs) (hu : Uv w g s u) (hg : Grew w w' v v') : Uv w' g s u := hu.tch hg.tch (h.1.ne_blkU hu (by decide))
theorem Out.vv {wb w w' : World} {v v' : Value} {xs : List Int} {q : Nat} {x : Vn} (h : Out wb w v xs) (hu : Vv w q x) (hg : Grew w w' v v') : Vv w' q x := hu.tch hg.tch (h.1.ne_blkU hu (by decide))

theorem upre_15 {s : Sp} : (upre s).take (15 + 11 * s.vs.length) = hdb s ++ vsb s.vs := by
  unfold upre
  rw [← List.append_assoc, List.take_append_of_le_length (by rw [List.length_append, hdb_len, vsb_len]; exact Nat.le_refl _), List.take_of_length_le (by rw [List.length_append, hdb_len, vsb_len]; exact Nat.le_refl _)]
theorem upre_z {s : Sp} (h : s.vs.length ≤ 8) {m : Nat} (h1 : 15 + 11 * s.vs.length ≤ m) (h2 : m < 252) : (upre s).take m ++ [0] = (upre s).take (m + 1) := by
  rw [List.take_succ_eq_append_getElem (by rw [upre_len h]; exact h2)]
  congr 2
  have e : (upre s)[m]? = some 0 := by
    unfold upre
    rw [← List.append_assoc, List.getElem?_append_right (by rw [List.length_append, hdb_len, vsb_len]; exact h1), List.length_append, hdb_len, vsb_len, List.getElem?_replicate, if_pos (by omega)]
  rw [List.getElem?_eq_getElem (by rw [upre_len h]; exact h2)] at e
  exact (Option.some.inj e).symm

set_option maxHeartbeats 400000 in
theorem refPutU_bad (s : Sp) (v : Value) (w : World) (hr : RdV w v s.vs) (hm : mayU s = false) :
    Calls Try.prog 9 #[supv s v] w fun e w' => PutV s w e w' := by
  obtain ⟨a, cap, rfl, hc1, hc2, _⟩ := id hr
  obtain ⟨W1, hW1⟩ : ∃ W1, w.alloc (.cells #[.int .i64 s.gen, .int .i64 s.sc, .int .i64 s.nx, .slice a s.vs.length cap] 24) = W1 := ⟨_, rfl⟩
  have B1 : Hid (Below w.heap.size w W1) := by rw [← hW1]; exact (Below.refl _ _).alloc (Nat.le_refl _) _
  have U1 : Hid (Uv W1 w.heap.size s (.slice a s.vs.length cap)) := by rw [← hW1]; exact uv_new w s _
  have q0 := U1.out.c0
  have q1 := U1.out.c1
  have q2 := U1.out.c2
  have q3 := U1.out.c3
  have HM1 := hideP (refMayU_any s _ W1 (hr.below B1.out))
  rw [hm] at HM1
  have HPo : Hid (∀ w', Below w.heap.size w w' → PutV s w (.returned (.tuple #[.slice none 0 0, .int .i64 1])) w') := fun w' h => ⟨_, _, rfl, h, (fun j e => by cases e), .inr ⟨hm, rfl, rfl⟩⟩
  unfold supv at HM1
  unfold supv
  generalize s.vs.length = l at *
  generalize s.gen = ge at *
  generalize s.sc = sc at *
  generalize s.nx = nx at *
  clear hr hm hc1 hc2
  go_enter Try.func9, Try.ntmps9
  go_wp2_with fail
  refine HM1.out.mono ?_
  rintro e w2 ⟨rfl, hb2⟩
  have B2 : Hid (Below w.heap.size w w2) := B1.out.trans (hb2.mono B1.out.size)
  clear hb2 hW1
  go_wp2_with fail
  go_ret2
  exact HPo.out _ B2.out

set_option maxHeartbeats 2000000 in
theorem refPutU_ok (s : Sp) (v : Value) (w : World) (hr : RdV w v s.vs) (hm : mayU s = true) :
    Calls Try.prog 9 #[supv s v] w fun e w' => PutV s w e w' := by
  obtain ⟨a, cap, rfl, hc1, hc2, _⟩ := id hr
  obtain ⟨⟨h1, h2, h3, h4, h5, h6, h7⟩, hvs⟩ := mayU_iff.1 hm
  have HR : Hid (RdV w (.slice a s.vs.length cap) s.vs) := hr
  have HMT : Hid (mayU s = true) := hm
  have HVS : Hid (∀ k x, s.vs[k]? = some x → VnOk x) := fun k x hx => by
    have := vsOk_mem (Int.le_refl 0) hvs x (List.mem_of_getElem? hx)
    exact ⟨by omega, by omega, by omega, by omega, by omega, by omega⟩
  have H7 : Hid (s.vs.length ≤ 8) := h7
  obtain ⟨G, hG⟩ : ∃ n : Nat, s.gen = (n : Int) := ⟨s.gen.toNat, by omega⟩
  obtain ⟨C, hC⟩ : ∃ n : Nat, s.sc = (n : Int) := ⟨s.sc.toNat, by omega⟩
  obtain ⟨N, hN⟩ : ∃ n : Nat, s.nx = (n : Int) := ⟨s.nx.toNat, by omega⟩
  have HGb : Hid (G < 9223372036854775807 ∧ C < 9223372036854775807 ∧ N < 9223372036854775807) := by refine ⟨?_, ?_, ?_⟩ <;> omega
  have HGe : Hid (s.gen = (G : Int) ∧ s.sc = (C : Int) ∧ s.nx = (N : Int)) := ⟨hG, hC, hN⟩
  have HH := hideP (hdb_eq s)
  rw [hG, hC, hN] at HH
  obtain ⟨W1, hW1⟩ : ∃ W1, w.alloc (.cells #[.int .i64 s.gen, .int .i64 s.sc, .int .i64 s.nx, .slice a s.vs.length cap] 24) = W1 := ⟨_, rfl⟩
  have B1 : Hid (Below w.heap.size w W1) := by rw [← hW1]; exact (Below.refl _ _).alloc (Nat.le_refl _) _
  have U1 : Hid (Uv W1 w.heap.size s (.slice a s.vs.length cap)) := by rw [← hW1]; exact uv_new w s _
  have q0 := U1.out.c0
  have q1 := U1.out.c1
  have q2 := U1.out.c2
  have q3 := U1.out.c3
  have HM1 := hideP (refMayU_any s _ W1 (hr.below B1.out))
  rw [hm] at HM1
  unfold supv at HM1
  unfold supv
  obtain ⟨l, hl⟩ : ∃ l, Hid (s.vs.length = l) := ⟨_, rfl⟩
  rw [hl.out] at HR hW1 q3 U1 HM1 h7 HH ⊢
  rw [hG] at q0
  rw [hC] at q1
  rw [hN] at q2
  rw [hG, hC, hN] at hW1 HM1 ⊢
  have hcap : Hid (cap ≤ maxLen) := hc2
  clear hr hm hc1 hc2 hvs hG hC hN h1 h2 h3 h4 h5 h6
  go_enter Try.func9, Try.ntmps9
  go_wp2_with fail
  refine HM1.out.mono ?_
  rintro e w2 ⟨rfl, hb2⟩
  obtain ⟨g, hg⟩ : ∃ g, Hid (w.heap.size = g) := ⟨_, rfl⟩
  rw [hg.out] at B1 U1 ⊢
  have B2 : Hid (Below g w w2) := B1.out.trans (hb2.mono (by have := B1.out.size; have := hg.out; omega))
  have U2 : Hid (Uv w2 g s (.slice a l cap)) := U1.out.below hb2
  have kc := fun (w : World) (C : Array Value) (n c : Nat) => Lib.run_convert_bytes_const (P := Try.prog) w 25 5 C n c Try.underlying25 Try.underlying5
  obtain ⟨W3, hW3⟩ : ∃ W3, w2.alloc (.cells #[.int .u8 75, .int .u8 73, .int .u8 83, .int .u8 84] 5 (4, 5)) = W3 := ⟨_, rfl⟩
  have b3 : Below w2.heap.size w2 W3 := by rw [← hW3]; exact (Below.refl _ _).alloc (Nat.le_refl _) _
  have U3 : Hid (Uv W3 g s (.slice a l cap)) := U2.out.below b3
  have O3 : Hid (Ful W3 (.slice (some ⟨w2.heap.size, 0, none⟩) 4 4) kist4) := by
    rw [← hW3]
    exact fulU_lit w2 kist4 (4, 5)
  have B3 : Hid (Below w2.heap.size w2 W3) := b3
  have HGW : Hid (g < w2.heap.size) := U2.out.lt
  have u0 := U3.out.c0
  rw [HGe.out.1] at u0
  have HN4 := hideP (refNumber_any _ kist4 G 4 W3 (.inr O3.out) HGb.out.1 (by decide) (by decide) (by decide))
  clear hb2 b3 hW1 q0 q1 q2 q3 U1 B1 HM1 U2
  go_wp2_with fail
  refine HN4.out.mono ?_
  rintro e w4 ⟨v4, rfl, o4, g4⟩
  have gn4 := g4.onto B3.out (fun j hj => by cases hj; exact Nat.le_refl _)
  have O4 : Hid (Out w2 w4 v4 (kist4 ++ leN 4 (G : Int))) := ⟨o4, gn4.1, gn4.2⟩
  have U4 : Hid (Uv w4 g s (.slice a l cap)) := U3.out.tch g4.tch (fun e => by simp only [Value.ownBlock, Option.some.injEq] at e; have := HGW.out; omega)
  have u1 := U4.out.c1
  rw [HGe.out.2.1] at u1
  have HN5 := hideP (refNumber_any _ _ C 2 w4 (.inl o4) HGb.out.2.1 (by decide) (by decide) (by rw [List.length_append, leN_len]; decide))
  clear o4 g4 gn4 O3 U3 u0 hW3 HN4 B3 kc
  go_wp2_with fail
  refine HN5.out.mono ?_
  rintro e w5 ⟨v5, rfl, o5, g5⟩
  have O5 : Hid (Out w2 w5 v5 ((kist4 ++ leN 4 (G : Int)) ++ leN 2 (C : Int))) := O4.out.grew o5 g5
  have U5 : Hid (Uv w5 g s (.slice a l cap)) := O4.out.uv U4.out g5
  clear u1
  have u2 := U5.out.c2
  rw [HGe.out.2.2] at u2
  have HN6 := hideP (refNumber_any _ _ N 4 w5 (.inl o5) HGb.out.2.2 (by decide) (by decide) (by rw [List.length_append, List.length_append, leN_len, leN_len]; decide))
  clear o5 g5 O4 U4 HN5
  go_wp2_with fail
  refine HN6.out.mono ?_
  rintro e w6 ⟨v6, rfl, o6, g6⟩
  have O6 : Hid (Out w2 w6 v6 (((kist4 ++ leN 4 (G : Int)) ++ leN 2 (C : Int)) ++ leN 4 (N : Int))) := O5.out.grew o6 g6
  have U6 : Hid (Uv w6 g s (.slice a l cap)) := O5.out.uv U5.out g6
  clear u2
  have u3 := U6.out.c3
  have HN7 := hideP (refNumber_any _ _ l 1 w6 (.inl o6) (by omega) (by decide) (by decide) (by rw [List.length_append, List.length_append, List.length_append, leN_len, leN_len, leN_len]; decide))
  rw [HH.out] at HN7
  clear o6 g6 O5 U5 HN6
  go_wp2_with fail
  refine HN7.out.mono ?_
  rintro e w7 ⟨v7, rfl, o7, g7⟩
  have O7 : Hid (Out w2 w7 v7 (hdb s)) := O6.out.grew o7 g7
  have U7 : Hid (Uv w7 g s (.slice a l cap)) := O6.out.uv U6.out g7
  clear u3 o7 g7 O6 U6 HN7 HH
  go_wp2_with fail
  go_loopw [5, 6] (fun ov i wr => ∃ (k : Nat) (v0 : Value), k ≤ l ∧ v0 = ov ∧ i = .int .i64 k ∧ Hid (Out w2 wr v0 (hdb s ++ vsb (s.vs.take k))) ∧ Hid (Uv wr g s (.slice a l cap))) (fun _ i _ => l - (intOf i).toNat)
  case atStart => exact ⟨0, v7, Nat.zero_le _, rfl, rfl, by rw [List.take_zero, show vsb [] = [] from rfl, List.append_nil]; exact O7, U7⟩
  case round =>
    clear O7 U7
    obtain ⟨k, v0, hk, rfl, rfl, O, U⟩ := hrel
    have u3 := U.out.c3
    by_cases hlt : k < l
    · obtain ⟨x, hx⟩ : ∃ x, s.vs[k]? = some x := ⟨_, List.getElem?_eq_getElem (by rw [hl.out]; exact hlt)⟩
      have HBR : Hid (Below w.heap.size w wr) := by rw [hg.out]; exact B2.out.trans (O.out.2.1.mono (by have := B2.out.size; have := hg.out; omega))
      obtain ⟨b, o, rfl, VC⟩ := HR.out.at_ HBR.out hx
      have x0 := VC.c0
      have x1 := VC.c1
      have x2 := VC.c2
      have x3 := VC.c3
      have HXO := hideP (HVS.out k x hx)
      have HTK := hideP (vs_take hx)
      have hkl : (k : Int) < (l : Int) := by omega
      have HLN : Hid ((hdb s ++ vsb (s.vs.take k)).length ≤ 103) := by
        show _ ≤ _
        rw [List.length_append, hdb_len, vsb_len, List.length_take]
        omega
      obtain ⟨xi, xr, xn, xf⟩ := x
      dsimp only at x0 x1 x2 x3
      obtain ⟨I, rfl⟩ : ∃ n : Nat, xi = (n : Int) := ⟨xi.toNat, by have := HXO.out.i0; dsimp only at this; omega⟩
      obtain ⟨R, rfl⟩ : ∃ n : Nat, xr = (n : Int) := ⟨xr.toNat, by have := HXO.out.r0; dsimp only at this; omega⟩
      obtain ⟨M, rfl⟩ : ∃ n : Nat, xn = (n : Int) := ⟨xn.toNat, by have := HXO.out.n0; dsimp only at this; omega⟩
      have hI : I < 9223372036854775807 := by have := HXO.out.i1; dsimp only at this; omega
      have hR : R < 9223372036854775807 := by have := HXO.out.r1; dsimp only at this; omega
      have hMb : M < 9223372036854775807 := by have := HXO.out.n1; dsimp only at this; omega
      obtain ⟨W3, hW3⟩ : ∃ W3, wr.alloc (.cells #[.int .i64 (I : Int), .int .i64 (R : Int), .int .i64 (M : Int), .bool xf] 66) = W3 := ⟨_, rfl⟩
      have bw : Below wr.heap.size wr W3 := by rw [← hW3]; exact (Below.refl _ _).alloc (Nat.le_refl _) _
      obtain ⟨q, hq⟩ : ∃ q, wr.heap.size = q := ⟨_, rfl⟩
      have V3 : Hid (Vv W3 q ⟨(I : Int), (R : Int), (M : Int), xf⟩) := by rw [← hW3, ← hq]; exact vv_new wr ⟨(I : Int), (R : Int), (M : Int), xf⟩
      have O3 : Hid (Out w2 W3 v0 (hdb s ++ vsb (s.vs.take k))) := O.out.below bw
      have U3 : Hid (Uv W3 g s (.slice (some ⟨b, o, none⟩) l cap)) := U.out.below bw
      have y0 : W3.cell? ⟨q, 0, none⟩ = some (.int .i64 (I : Int)) := V3.out.cells.c0
      have HN3 := hideP (refNumber_any _ _ I 4 W3 (.inl O3.out.1) hI (by decide) (by decide) (by have := HLN.out; omega))
      clear VC hx bw O U HXO HBR
      go_wp2_with fail
      refine HN3.out.mono ?_
      rintro e w4 ⟨v4, rfl, o4, g4⟩
      have O4 : Hid (Out w2 w4 v4 ((hdb s ++ vsb (s.vs.take k)) ++ leN 4 (I : Int))) := O3.out.grew o4 g4
      have U4 : Hid (Uv w4 g s (.slice (some ⟨b, o, none⟩) l cap)) := O3.out.uv U3.out g4
      have V4 : Hid (Vv w4 q ⟨(I : Int), (R : Int), (M : Int), xf⟩) := O3.out.vv V3.out g4
      have y1 : w4.cell? ⟨q, 1, none⟩ = some (.int .i64 (R : Int)) := V4.out.cells.c1
      have HN4 := hideP (refNumber_any _ _ R 2 w4 (.inl o4) hR (by decide) (by decide) (by rw [List.length_append, leN_len]; have := HLN.out; omega))
      clear o4 g4 O3 U3 V3 y0 hW3 hq x0 x1 x2 x3 u3 HN3
      go_wp2_with fail
      refine HN4.out.mono ?_
      rintro e w5 ⟨v5, rfl, o5, g5⟩
      have O5 : Hid (Out w2 w5 v5 (((hdb s ++ vsb (s.vs.take k)) ++ leN 4 (I : Int)) ++ leN 2 (R : Int))) := O4.out.grew o5 g5
      have U5 : Hid (Uv w5 g s (.slice (some ⟨b, o, none⟩) l cap)) := O4.out.uv U4.out g5
      have V5 : Hid (Vv w5 q ⟨(I : Int), (R : Int), (M : Int), xf⟩) := O4.out.vv V4.out g5
      have y2 : w5.cell? ⟨q, 2, none⟩ = some (.int .i64 (M : Int)) := V5.out.cells.c2
      have HN5 := hideP (refNumber_any _ _ M 4 w5 (.inl o5) hMb (by decide) (by decide) (by rw [List.length_append, List.length_append, leN_len, leN_len]; have := HLN.out; omega))
      clear o5 g5 O4 U4 V4 y1 HN4
      go_wp2_with fail
      refine HN5.out.mono ?_
      rintro e w6 ⟨v6, rfl, o6, g6⟩
      have O6 : Hid (Out w2 w6 v6 ((((hdb s ++ vsb (s.vs.take k)) ++ leN 4 (I : Int)) ++ leN 2 (R : Int)) ++ leN 4 (M : Int))) := O5.out.grew o6 g6
      have U6 : Hid (Uv w6 g s (.slice (some ⟨b, o, none⟩) l cap)) := O5.out.uv U5.out g6
      have V6 : Hid (Vv w6 q ⟨(I : Int), (R : Int), (M : Int), xf⟩) := O5.out.vv V5.out g6
      have y3 : w6.cell? ⟨q, 3, none⟩ = some (.bool xf) := V6.out.cells.c3
      clear o6 g6 O5 U5 V5 y2 HN5
      obtain ⟨X, hX⟩ : ∃ X, Hid ((((hdb s ++ vsb (s.vs.take k)) ++ leN 4 (I : Int)) ++ leN 2 (R : Int)) ++ leN 4 (M : Int) = X) := ⟨_, rfl⟩
      have HXL : Hid (X.length ≤ 113) := by
        show _ ≤ _
        rw [← hX.out]
        simp only [List.length_append, leN_len]
        have := HLN.out
        rw [List.length_append] at this
        omega
      have HXE : Hid (∀ z : Int, z = (if xf then 1 else 0) → X ++ [z] = hdb s ++ vsb (s.vs.take (k + 1))) := fun z hz => by
        rw [HTK.out, ← hX.out, hz]
        simp [vby]
      rw [hX.out] at O6
      have OX : Hid (Owns .u8 5 w6 v6 X) := O6.out.1
      clear HTK HLN hI hR hMb
      cases xf with
      | false =>
        go_wp2_with (at_builtin; refine wpList_push _ rfl (.tmp 61) (.tmp 62) 25 rfl 5 .u8 1 elem8 _ X rfl OX.out 0 rfl (by have := HXL.out; omega) (by have := HXL.out; omega) ?_)
        intro v8 w8 o8 g8
        rw [HXE.out 0 rfl] at o8
        have O8 : Hid (Out w2 w8 v8 (hdb s ++ vsb (s.vs.take (k + 1)))) := O6.out.grew o8 g8
        have U8 : Hid (Uv w8 g s (.slice (some ⟨b, o, none⟩) l cap)) := O6.out.uv U6.out g8
        clear o8 g8 O6 U6 V6 y3 OX
        go_wp2_with fail
        go_roundw
        case rel => exact ⟨k + 1, _, by omega, rfl, by go_num, O8, U8⟩
        case measure => simp [intOf]; omega
      | true =>
        go_wp2_with (at_builtin; refine wpList_push _ rfl (.tmp 58) (.tmp 59) 25 rfl 5 .u8 1 elem8 _ X rfl OX.out 1 rfl (by have := HXL.out; omega) (by have := HXL.out; omega) ?_)
        intro v8 w8 o8 g8
        rw [HXE.out 1 rfl] at o8
        have O8 : Hid (Out w2 w8 v8 (hdb s ++ vsb (s.vs.take (k + 1)))) := O6.out.grew o8 g8
        have U8 : Hid (Uv w8 g s (.slice (some ⟨b, o, none⟩) l cap)) := O6.out.uv U6.out g8
        clear o8 g8 O6 U6 V6 y3 OX
        go_wp2_with fail
        go_roundw
        case rel => exact ⟨k + 1, _, by omega, rfl, by go_num, O8, U8⟩
        case measure => simp [intOf]; omega
    · have hkl : ¬ (k : Int) < (l : Int) := by omega
      rw [List.take_of_length_le (by rw [hl.out]; omega), ← upre_15, hl.out] at O
      have HTZ : Hid (∀ m, 15 + 11 * l ≤ m → m < 252 → (upre s).take m ++ [0] = (upre s).take (m + 1)) := fun m g1 g2 => upre_z H7.out (by rw [hl.out]; exact g1) g2
      have HLm : Hid (∀ m, m ≤ 252 → ((upre s).take m).length = m) := fun m h => by rw [List.length_take, upre_len H7.out]; omega
      clear U hlt
      go_wp2_with fail
      go_loopw [5] (fun v wr => ∃ (m : Nat) (v0 : Value), 15 + 11 * l ≤ m ∧ m ≤ 252 ∧ v0 = v ∧ Hid (Out w2 wr v0 ((upre s).take m))) (fun v _ => 252 - (match v with | .slice _ l _ => l | _ => 0))
      case atStart => exact ⟨15 + 11 * l, v0, Nat.le_refl _, by omega, rfl, O⟩
      case round =>
        clear O u3
        obtain ⟨m, v0, hm1, hm2, rfl, O1⟩ := hrel
        obtain ⟨gg, cp, hv, hgl, hcp1, hcp2, _⟩ := O1.out.1.shape (by rw [HLm.out m (by omega)]; omega)
        rw [HLm.out m (by omega)] at hv hcp1
        subst hv
        have hcp3 : cp ≤ 9223372036854775807 := by unfold maxLen at hcp2; omega
        have OX : Hid (Owns .u8 5 wr (.slice (some ⟨gg, 0, none⟩) m cp) ((upre s).take m)) := O1.out.1
        by_cases hlt : m < 252
        · have HLN : Hid (((upre s).take m).length = m) := HLm.out m (by omega)
          have hlt2 : (m : Int) < 252 := by omega
          go_wp2_with (at_builtin; refine wpList_push _ rfl (.tmp 67) (.tmp 68) 25 rfl 5 .u8 1 elem8 _ ((upre s).take m) rfl OX.out 0 rfl (by rw [HLN.out]; omega) (by rw [HLN.out]; omega) ?_)
          intro v2 w3 o2 g2
          rw [HTZ.out m hm1 hlt] at o2
          have O2 : Hid (Out w2 w3 v2 ((upre s).take (m + 1))) := O1.out.grew o2 g2
          obtain ⟨g', cp', hv', _⟩ := O2.out.1.shape (by rw [HLm.out (m + 1) (by omega)]; omega)
          rw [HLm.out (m + 1) (by omega)] at hv'
          subst hv'
          clear o2 g2 O1 OX HLN
          go_wp2_with fail
          go_roundw
          case rel => exact ⟨m + 1, _, by omega, by omega, rfl, O2⟩
          case measure => simp; omega
        · have hm0 : m = 252 := by omega
          have hnn : ¬ (m : Int) < 252 := by omega
          have e0 : (upre s).take m = upre s := List.take_of_length_le (by rw [upre_len H7.out]; omega)
          rw [e0] at O1 OX
          have R1 : Hid (Rd .u8 wr (.slice (some ⟨gg, 0, none⟩) m cp) (upre s)) := OX.out.rd
          have HLU : Hid ((upre s).length = 252) := upre_len H7.out
          clear hm0 hm1 hm2 hlt hgl e0
          go_wp2_with fail
          refine (refCrc_any _ (upre s) wr R1.out (upre_by s)).mono ?_
          rintro e w4 ⟨rfl, hb4⟩
          obtain ⟨cs, hcs⟩ : ∃ cs, crc (upre s) = cs := ⟨_, rfl⟩
          have hcl : cs < 4294967296 := by rw [← hcs]; exact crc_ltU _
          have O4 : Hid (Out w2 w4 (.slice (some ⟨gg, 0, none⟩) m cp) (upre s)) := O1.out.below hb4
          have HNL := hideP (refNumber_any _ (upre s) cs 4 w4 (.inl O4.out.1) (by omega) (by decide) (by decide) (by rw [HLU.out]; decide))
          have HUE : Hid (upre s ++ leN 4 (cs : Int) = usec s) := by
            show _ = _
            unfold usec
            rw [le4_leN, hcs]
          rw [HUE.out] at HNL
          rw [hcs]
          clear hb4 hcs O1 OX R1 hnn
          go_wp2_with fail
          refine HNL.out.mono ?_
          rintro e w5 ⟨v5, rfl, o5, g5⟩
          have O5 : Hid (Out w2 w5 v5 (usec s)) := O4.out.grew o5 g5
          clear o5 g5 O4 HNL
          go_wp2_with fail
          go_ret2
          refine ⟨_, _, rfl, ?_, fun j hj => ?_, .inl ⟨HMT.out, rfl, O5.out.1⟩⟩
          · rw [hg.out]; exact B2.out.trans (O5.out.2.1.mono (by have := B2.out.size; have := hg.out; omega))
          · have h1 := O5.out.2.2 j hj
            have h2 := B2.out.size
            omega
theorem refPutU_any (s : Sp) (v : Value) (w : World) (hr : RdV w v s.vs) : Calls Try.prog 9 #[supv s v] w fun e w' => PutV s w e w' := by
  cases hm : mayU s with
  | false => exact refPutU_bad s v w hr hm
  | true => exact refPutU_ok s v w hr hm
end Go.Proofs.Ytdicgaepggffbaa
