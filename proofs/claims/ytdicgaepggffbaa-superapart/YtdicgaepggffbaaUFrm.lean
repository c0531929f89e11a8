/-
  What a sector says, be it so or not: the program's.
-/
import Derived.Test.YtdicgaepggffbaaUVer
namespace Go.Proofs.Ytdicgaepggffbaa
open Go.RowKit Pl
set_option linter.unusedVariables false
set_option linter.unusedSimpArgs false
set_option maxRecDepth 100000

theorem made_newV (n : Nat) : (madeCells #[.int .i64 0, .int .i64 0, .int .i64 0, .bool false] (n * 4)).toList = vcells (List.replicate n vn0) := by
  have hL := vcells_length (List.replicate n vn0)
  rw [List.length_replicate] at hL
  apply List.ext_getElem?
  intro i
  by_cases hi : i < n * 4
  · have h1 : i / 4 < n := by omega
    have hg := vcells_get (List.replicate n vn0) (i / 4) vn0 (by rw [List.getElem?_replicate, if_pos h1])
    have hr : (vcells (List.replicate n vn0))[i]? = #[Value.int .i64 0, .int .i64 0, .int .i64 0, .bool false][i % 4]? := by
      have h4 : i % 4 = 0 ∨ i % 4 = 1 ∨ i % 4 = 2 ∨ i % 4 = 3 := by omega
      rcases h4 with e | e | e | e
      · rw [e]; have := hg.1; rw [show i / 4 * 4 = i by omega] at this; exact this
      · rw [e]; have := hg.2.1; rw [show i / 4 * 4 + 1 = i by omega] at this; exact this
      · rw [e]; have := hg.2.2.1; rw [show i / 4 * 4 + 2 = i by omega] at this; exact this
      · rw [e]; have := hg.2.2.2; rw [show i / 4 * 4 + 3 = i by omega] at this; exact this
    rw [hr]
    unfold madeCells
    simp only [Array.toList_map, List.getElem?_map, Array.toList_range]
    rw [List.getElem?_range hi]
    simp only [Option.map_some]
    rw [getElem!_def]
    rw [show (#[Value.int .i64 0, .int .i64 0, .int .i64 0, .bool false] : Array Value).size = 4 from rfl]
    have h4 : i % 4 = 0 ∨ i % 4 = 1 ∨ i % 4 = 2 ∨ i % 4 = 3 := by omega
    rcases h4 with e | e | e | e <;> rw [e] <;> rfl
  · rw [List.getElem?_eq_none (by rw [Array.length_toList, size_madeCells]; omega), List.getElem?_eq_none (by omega)]

/-- The versions so far. -/
def vsFar (xs : List Int) (m k : Nat) : List Vn := rdVs (fun x => x != 0) xs k ++ List.replicate (m - k) vn0
theorem rdVs_len (f : Int → Bool) (xs : List Int) (k : Nat) : (rdVs f xs k).length = k := by simp [rdVs]
theorem vsFar_len {xs : List Int} {m k : Nat} (h : k ≤ m) : (vsFar xs m k).length = m := by unfold vsFar; rw [List.length_append, rdVs_len, List.length_replicate]; omega
theorem vsFar_step {xs : List Int} {m k : Nat} (h : k < m) : (vsFar xs m k).set k (rdVn (fun x => x != 0) xs (15 + 11 * k)) = vsFar xs m (k + 1) := by
  unfold vsFar
  have e : List.replicate (m - k) vn0 = vn0 :: List.replicate (m - (k + 1)) vn0 := by rw [show m - k = (m - (k + 1)) + 1 by omega, List.replicate_succ]
  rw [List.set_append_right _ _ (by rw [rdVs_len]; exact Nat.le_refl _), rdVs_len, Nat.sub_self, e, List.set_cons_zero]
  unfold rdVs
  rw [List.range_succ, List.map_append, List.append_assoc]
  rfl
theorem vsFar_end (xs : List Int) (m : Nat) : vsFar xs m m = rdVs (fun x => x != 0) xs m := by unfold vsFar; simp
theorem vsFar_zero (xs : List Int) (m : Nat) : vsFar xs m 0 = List.replicate m vn0 := by unfold vsFar rdVs; simp

theorem OwnsV.there {w : World} {g n cap : Nat} {ps : List Vn} (h : OwnsV w (.slice (some ⟨g, 0, none⟩) n cap) ps) {i : Nat} (hi : i < ps.length) : w.there g (i * 4) 4 := fun j hj => by
  have h' : w.ownsRow 0 66 4 (.slice (some ⟨g, 0, none⟩) n cap) ps.length (vcells ps) := h
  have hn : n = ps.length := by
    rcases h'.2 with ⟨e, _⟩ | ⟨g', cap', cur, e, _⟩
    · cases e
    · simp only [Value.slice.injEq] at e; exact e.2.1
  subst hn
  refine ⟨?_, h'.frozenAt _⟩
  rw [h'.cellAt _ (by omega), List.getElem?_eq_getElem (by rw [vcells_length]; omega)]
  rfl
/-- Versions lie in no block of another type. -/
theorem OwnsV.ne_blk {w : World} {v : Value} {ps : List Vn} {b : Nat} {cs : Array Value} {t : TypeId} (h : OwnsV w v ps) (hb : w.heap[b]? = some (.cells cs t (0, 0))) (ht : t ≠ 66) {k : Nat} (hk : v.ownBlock = some k) : k ≠ b := by
  intro e
  subst e
  have h' : w.ownsRow 0 66 4 v ps.length (vcells ps) := h
  rcases h'.2 with ⟨rfl, _⟩ | ⟨g, cap, cur, rfl, _, hg, _⟩
  · cases hk
  · cases hk
    rw [hg] at hb
    simp at hb
    exact ht hb.2.symm
theorem verv_cells (x : Vn) : (#[Value.int .i64 x.id, .int .i64 x.root, .int .i64 x.nx, .bool x.fx]).all (·.oneCell') = true := all_oneCell_toArray (cs := [.int .i64 x.id, .int .i64 x.root, .int .i64 x.nx, .bool x.fx]) (fun v hv => by
  simp only [List.mem_cons, List.not_mem_nil, or_false] at hv
  rcases hv with rfl | rfl | rfl | rfl <;> rfl)

/-- What the program reads. -/
def FrmR (g : Nat) (xs : List Int) (m : Nat) (w : World) (e : Ending) (w' : World) : Prop :=
  ∃ v, e = .returned (supv (rdS (fun x => x != 0) xs m) v) ∧ OwnsV w' v (rdVs (fun x => x != 0) xs m) ∧ Below w.heap.size w w' ∧ ∀ j, v.ownBlock = some j → w.heap.size ≤ j

set_option maxHeartbeats 1000000 in
theorem frm_any (L m : Nat) (xs : List Int) (w : World) (hlx : xs.length = 256) (hbx : By xs) (hL : xs.getD 14 0 = (L : Int)) (hm : m = min L 9) :
    Calls Try.prog 41 #[.agg (bcs xs).toArray] w fun e w' => FrmR 0 xs m w e w' := by
  obtain ⟨j0, hj, hy0, hy1, hy2⟩ := info_parts infoV
  have HLN : Hid (xs.length = 256) := hlx
  have HBY : Hid (By xs) := hbx
  have hL2 : L < 256 := by have := HBY.out 14; omega
  obtain ⟨W0, hW0⟩ : ∃ W0, w.alloc (.cells (bcs xs).toArray 62) = W0 := ⟨_, rfl⟩
  obtain ⟨W1, hW1⟩ : ∃ W1, W0.alloc (.cells #[.int .i64 0, .int .i64 0, .int .i64 0, .slice none 0 0] 24) = W1 := ⟨_, rfl⟩
  have b0 : Below w.heap.size w W0 := by rw [← hW0]; exact (Below.refl _ _).alloc (Nat.le_refl _) _
  have s0 : W0.heap.size = w.heap.size + 1 := by rw [← hW0]; simp
  have b1 : Below W0.heap.size W0 W1 := by rw [← hW1]; exact (Below.refl _ _).alloc (Nat.le_refl _) _
  have F0 : Fu W0 w.heap.size xs := by rw [← hW0]; exact fv_newU w hlx hbx
  obtain ⟨g, hg⟩ : ∃ g, w.heap.size = g := ⟨_, rfl⟩
  obtain ⟨q, hq⟩ : ∃ q, w.heap.size + 1 = q := ⟨_, rfl⟩
  have HQ : Hid (w.heap.size = g) := hg
  have HGQ : Hid (g < q) := by show _ < _; omega
  have F1 : Hid (Fu W1 g xs) := by rw [← hg]; exact F0.below b1
  have B1 : Hid (Below g w W1) := by rw [← hg]; exact b0.trans (b1.mono (by omega))
  have U1 : Hid (Uv W1 q sp0 (.slice none 0 0)) := by rw [← hW1, ← hq, ← s0]; exact uv_new W0 sp0 _
  have HSQ : Hid (w.heap.size + 1 = q) := hq
  obtain ⟨X, hX⟩ : ∃ X, Hid ((bcs xs).toArray = X) := ⟨_, rfl⟩
  rw [hX.out] at hW0 ⊢
  have HW1 : Hid ((w.alloc (.cells X 62)).alloc (.cells #[.int .i64 0, .int .i64 0, .int .i64 0, .slice none 0 0] 24) = W1) := by show _ = _; rw [hW0]; exact hW1
  clear b0 s0 F0 hq hg hW0 hW1
  have e1 : vN (sl xs 14 1) = (L : Int) := by
    rw [sl_succ (by rw [HLN.out]; omega), ← hL]
    simp [sl, vN]
  have HN1 := hideP (numberU_any g 14 1 xs W1 F1.out (by decide) (by decide))
  rw [e1] at HN1
  have HM : Hid (m = min L 9) := hm
  have hm9 : m ≤ 9 := by omega
  clear b1 hL e1 hlx hbx
  have HMK : Hid (m * 32 ≤ 140737488355328) := by show _ ≤ _; omega
  have HMX : Hid (m ≤ maxLen) := by show _ ≤ _; unfold maxLen; omega
  by_cases hc : (9 : Int) < (L : Int)
  · obtain rfl : m = 9 := by omega
    clear hm
    go_enter Try.func41, Try.ntmps41
    go_wp2_with fail
    rw [HW1.out, HQ.out]
    (try rw [HQ.out] at HSQ)
    rw [HSQ.out]
    refine HN1.out.mono ?_
    rintro e w2 ⟨rfl, b2⟩
    have F2 : Hid (Fu w2 g xs) := F1.out.below b2
    have U2 : Hid (Uv w2 q sp0 (.slice none 0 0)) := U1.out.below b2
    have B2 : Hid (Below g w w2) := B1.out.trans (b2.mono (by have := HGQ.out; have := U1.out.lt; omega))
    clear b2 F1 U1 B1 HN1 HW1
    go_wp2_with (at_make; refine wpList_make_full _ rfl (.tmp 8) (.tmp 8) 22 rfl 0 66 j0 _ 4 Try.underlying22 hj hy0 hy1 .i64 .i64 _ _ 9 rfl rfl rfl rfl (by rw [hy2]; have := HMK.out; omega) (by have := HMX.out; omega) (Nat.zero_le _) ?_)
    intro w3 ho3 hg3
    have b3 : Below w2.heap.size w2 w3 := (Below.refl _ _).grown hg3 (Nat.le_refl _) (fun k e => by cases e)
    obtain ⟨g2, hg2⟩ : ∃ g2, w2.heap.size = g2 := ⟨_, rfl⟩
    have O3 : Hid (OwnsV w3 (.slice (some ⟨g2, 0, none⟩) 9 9) (vsFar xs 9 0)) := by
      rw [vsFar_zero]
      show World.ownsRow _ _ _ _ _ _ _
      rw [List.length_replicate, ← hg2, ← made_newV]
      exact ho3
    have F3 : Hid (Fu w3 g xs) := F2.out.below b3
    have U3 : Hid (Uv w3 q sp0 (.slice none 0 0)) := U2.out.below b3
    have B3 : Hid (Below g w w3) := B2.out.trans (b3.mono (by have := HGQ.out; have := U2.out.lt; omega))
    have N3 : Hid (q < g2 ∧ g < g2) := by refine ⟨?_, ?_⟩ <;> (have := U2.out.lt; have := F2.out.lt; omega)
    rw [hg2]
    clear ho3 hg3 b3 F2 U2 B2 hj hy0 hy1 hy2 hg2
    go_wp2_with fail
    go_loopw [12] (fun i wr => ∃ k : Nat, k ≤ 9 ∧ i = .int .i64 k ∧ Hid (OwnsV wr (.slice (some ⟨g2, 0, none⟩) 9 9) (vsFar xs 9 k)) ∧ Hid (Fu wr g xs) ∧ Hid (Uv wr q sp0 (.slice none 0 0)) ∧ Hid (Below g w wr)) (fun i _ => 9 - (intOf i).toNat)
    case atStart => exact ⟨0, Nat.zero_le _, rfl, O3, F3, U3, B3⟩
    case round =>
      clear O3 F3 U3 B3
      obtain ⟨k, hk, rfl, O, F, U, B⟩ := hrel
      by_cases hlt : k < 9
      · have hkl : (k : Int) < (9 : Int) := by omega
        have hk9 : k ≤ 8 := by have := HM.out; omega
        obtain ⟨p1, hp⟩ : ∃ m, 11 * k = m := ⟨_, rfl⟩
        have hm1 : 11 * (k : Int) = (p1 : Int) := by omega
        obtain ⟨p, hpp⟩ : ∃ p, 15 + p1 = p := ⟨_, rfl⟩
        have hp1 : 15 + (p1 : Int) = (p : Int) := by omega
        have hp2 : p ≤ 103 := by omega
        have HPK : Hid (15 + 11 * k = p) := by show _ = _; omega
        have HV := hideP (version_any g p xs wr F.out (by omega))
        clear hp hpp
        go_wp2_with fail
        refine HV.out.mono ?_
        rintro e w4 ⟨rfl, b4⟩
        have O4 : Hid (OwnsV w4 (.slice (some ⟨g2, 0, none⟩) 9 9) (vsFar xs 9 k)) := O.out.below b4
        have F4 : Hid (Fu w4 g xs) := F.out.below b4
        have U4 : Hid (Uv w4 q sp0 (.slice none 0 0)) := U.out.below b4
        have B4 : Hid (Below g w w4) := B.out.trans (b4.mono (by have := HGQ.out; have := U.out.lt; omega))
        obtain ⟨x, hx⟩ : ∃ x, rdVn (fun x => x != 0) xs p = x := ⟨_, rfl⟩
        have HX : Hid ((vsFar xs 9 k).set k x = vsFar xs 9 (k + 1)) := by
          show _ = _
          rw [← hx, ← HPK.out]
          exact vsFar_step hlt
        rw [hx]
        have HT : Hid (w4.there g2 (k * 4) 4) := O4.out.there (by rw [vsFar_len (by omega)]; exact hlt)
        have hvl : k < (vsFar xs 9 k).length := by rw [vsFar_len (by omega)]; exact hlt
        obtain ⟨W5, hW5⟩ : ∃ W5, (((w4.setCell ⟨g2, k * 4, none⟩ (.int .i64 x.id)).setCell ⟨g2, k * 4 + 1, none⟩ (.int .i64 x.root)).setCell ⟨g2, k * 4 + 2, none⟩ (.int .i64 x.nx)).setCell ⟨g2, k * 4 + 3, none⟩ (.bool x.fx) = W5 := ⟨_, rfl⟩
        have e5 : w4.setCells g2 (k * 4) [.int .i64 x.id, .int .i64 x.root, .int .i64 x.nx, .bool x.fx] = W5 := by rw [← hW5]; rfl
        have O5 := O4.out.put (i := k) hvl x
        rw [HX.out, e5] at O5
        have T5 : Tch (fun j => j = g2) w4 W5 := by rw [← e5]; exact setCells_tchD g2 _ _ w4
        have F5 : Hid (Fu W5 g xs) := F4.out.tch T5 (by have := N3.out; omega)
        have U5 : Hid (Uv W5 q sp0 (.slice none 0 0)) := U4.out.tch T5 (by have := N3.out; omega)
        have B5 : Hid (Below g w W5) := B4.out.trans (T5.below (by have := HGQ.out; have := U4.out.lt; omega) (fun j e => by rw [e]; have := N3.out; omega))
        have O5 := hideP O5
        obtain ⟨z, hz⟩ : ∃ z, (vsFar xs 9 k)[k]? = some z := ⟨_, List.getElem?_eq_getElem hvl⟩
        obtain ⟨_, _, eb, ZC⟩ := O4.out.rd.at_ (Below.refl _ _) hz
        cases eb
        rw [Nat.zero_add] at ZC
        have z0 := ZC.c0
        have z1 := ZC.c1
        have z2 := ZC.c2
        have z3 := ZC.c3
        have y0 := (HT.out 0 (by decide)).2
        have y1 := (HT.out 1 (by decide)).2
        have y2 := (HT.out 2 (by decide)).2
        have y3 := (HT.out 3 (by decide)).2
        rw [Nat.add_zero] at y0
        obtain ⟨xi, hxi⟩ : ∃ n, x.id = n := ⟨_, rfl⟩
        obtain ⟨xr, hxr⟩ : ∃ n, x.root = n := ⟨_, rfl⟩
        obtain ⟨xn, hxn⟩ : ∃ n, x.nx = n := ⟨_, rfl⟩
        obtain ⟨xf, hxf⟩ : ∃ n, x.fx = n := ⟨_, rfl⟩
        unfold verv
        rw [hxi, hxr, hxn, hxf] at hW5
        rw [hxi, hxr, hxn, hxf]
        generalize z.id = zi at z0
        generalize z.root = zr at z1
        generalize z.nx = zn at z2
        generalize z.fx = zf at z3
        clear HX hx b4 O F U B O4 F4 U4 B4 T5 HV HPK HT ZC hz e5 hxi hxr hxn hxf hvl
        go_wp2_with fail
        go_roundw
        case rel => exact ⟨k + 1, by omega, by go_num, O5, F5, U5, B5⟩
        case measure => simp [intOf]; omega
      · have hkl : ¬ (k : Int) < (9 : Int) := by omega
        have hkm : k = 9 := by omega
        rw [hkm, vsFar_end] at O
        have HN4 := hideP (numberU_any g 4 4 xs wr F.out (by decide) (by decide))
        clear hkm hlt
        go_wp2_with fail
        refine HN4.out.mono ?_
        rintro e w4 ⟨rfl, b4⟩
        have O4 : Hid (OwnsV w4 (.slice (some ⟨g2, 0, none⟩) 9 9) (rdVs (fun x => x != 0) xs 9)) := O.out.below b4
        have F4 : Hid (Fu w4 g xs) := F.out.below b4
        have U4 : Hid (Uv w4 q sp0 (.slice none 0 0)) := U.out.below b4
        have B4 : Hid (Below g w w4) := B.out.trans (b4.mono (by have := HGQ.out; have := U.out.lt; omega))
        clear b4 O F U B HN4
        go_wp2_with fail
        refine (numberU_any g 8 2 xs w4 F4.out (by decide) (by decide)).mono ?_
        rintro e w5 ⟨rfl, b5⟩
        have O5 : Hid (OwnsV w5 (.slice (some ⟨g2, 0, none⟩) 9 9) (rdVs (fun x => x != 0) xs 9)) := O4.out.below b5
        have F5 : Hid (Fu w5 g xs) := F4.out.below b5
        have U5 : Hid (Uv w5 q sp0 (.slice none 0 0)) := U4.out.below b5
        have B5 : Hid (Below g w w5) := B4.out.trans (b5.mono (by have := HGQ.out; have := U4.out.lt; omega))
        clear b5 O4 F4 U4 B4
        go_wp2_with fail
        refine (numberU_any g 10 4 xs w5 F5.out (by decide) (by decide)).mono ?_
        rintro e w6 ⟨rfl, b6⟩
        have O6 : Hid (OwnsV w6 (.slice (some ⟨g2, 0, none⟩) 9 9) (rdVs (fun x => x != 0) xs 9)) := O5.out.below b6
        have U6 : Hid (Uv w6 q sp0 (.slice none 0 0)) := U5.out.below b6
        have B6 : Hid (Below g w w6) := B5.out.trans (b6.mono (by have := HGQ.out; have := U5.out.lt; omega))
        clear b6 O5 F5 U5 B5
        have HR : Hid (rdS (fun x => x != 0) xs 9 = ⟨vN (sl xs 4 4), vN (sl xs 8 2), vN (sl xs 10 4), rdVs (fun x => x != 0) xs 9⟩) := rfl
        obtain ⟨n1, hn1⟩ : ∃ n, Hid (vN (sl xs 4 4) = n) := ⟨_, rfl⟩
        obtain ⟨n2, hn2⟩ : ∃ n, Hid (vN (sl xs 8 2) = n) := ⟨_, rfl⟩
        obtain ⟨n3, hn3⟩ : ∃ n, Hid (vN (sl xs 10 4) = n) := ⟨_, rfl⟩
        rw [hn1.out, hn2.out, hn3.out] at HR
        rw [hn1.out, hn2.out, hn3.out]
        have c0 : w6.cell? ⟨q, 0, none⟩ = some (.int .i64 0) := U6.out.c0
        have c1 : w6.cell? ⟨q, 1, none⟩ = some (.int .i64 0) := U6.out.c1
        have c2 : w6.cell? ⟨q, 2, none⟩ = some (.int .i64 0) := U6.out.c2
        have c3 := U6.out.c3
        have f0 := U6.out.fz 0
        have f1 := U6.out.fz 1
        have f2 := U6.out.fz 2
        have f3 := U6.out.fz 3
        have HP := hideP (U6.out.put ⟨n1, n2, n3, rdVs (fun x => x != 0) xs 9⟩ (.slice (some ⟨g2, 0, none⟩) 9 9))
        have HT : Hid (Tch (fun j => j = q) w6 ((((w6.setCell ⟨q, 0, none⟩ (.int .i64 n1)).setCell ⟨q, 1, none⟩ (.int .i64 n2)).setCell ⟨q, 2, none⟩ (.int .i64 n3)).setCell ⟨q, 3, none⟩ (.slice (some ⟨g2, 0, none⟩) 9 9))) :=
          Tch.setCell (Tch.setCell (Tch.setCell (Tch.setCell (Tch.refl (fun j => j = q) w6) (p := ⟨q, 0, none⟩) (fun _ => rfl) _) (p := ⟨q, 1, none⟩) (fun _ => rfl) _) (p := ⟨q, 2, none⟩) (fun _ => rfl) _) (p := ⟨q, 3, none⟩) (fun _ => rfl) _
        go_wp2_with fail
        refine bodyPost_ret (v := supv ⟨n1, n2, n3, rdVs (fun x => x != 0) xs 9⟩ (.slice (some ⟨g2, 0, none⟩) 9 9)) (results_atU (p := 2) (ty := 24) rfl _ _ _ q _ rfl HP.out.load) rfl ?_
        refine ⟨_, by rw [HR.out], O6.out.tch HT.out (fun j hj e => by cases hj; have e2 : g2 = q := e; have := N3.out; omega), ?_, fun j hj => by cases hj; rw [HQ.out]; show g ≤ g2; have := N3.out; omega⟩
        rw [HQ.out]
        exact B6.out.trans (HT.out.below (by have := HGQ.out; have := U6.out.lt; omega) (fun j e => by rw [e]; have := HGQ.out; omega))
  · have hLm : m = L := by omega
    subst hLm
    clear hm
    go_enter Try.func41, Try.ntmps41
    go_wp2_with fail
    rw [HW1.out, HQ.out]
    (try rw [HQ.out] at HSQ)
    rw [HSQ.out]
    refine HN1.out.mono ?_
    rintro e w2 ⟨rfl, b2⟩
    have F2 : Hid (Fu w2 g xs) := F1.out.below b2
    have U2 : Hid (Uv w2 q sp0 (.slice none 0 0)) := U1.out.below b2
    have B2 : Hid (Below g w w2) := B1.out.trans (b2.mono (by have := HGQ.out; have := U1.out.lt; omega))
    clear b2 F1 U1 B1 HN1 HW1
    go_wp2_with (at_make; refine wpList_make_full _ rfl (.tmp 8) (.tmp 8) 22 rfl 0 66 j0 _ 4 Try.underlying22 hj hy0 hy1 .i64 .i64 _ _ m rfl rfl rfl rfl (by rw [hy2]; have := HMK.out; omega) (by have := HMX.out; omega) (Nat.zero_le _) ?_)
    intro w3 ho3 hg3
    have b3 : Below w2.heap.size w2 w3 := (Below.refl _ _).grown hg3 (Nat.le_refl _) (fun k e => by cases e)
    obtain ⟨g2, hg2⟩ : ∃ g2, w2.heap.size = g2 := ⟨_, rfl⟩
    have O3 : Hid (OwnsV w3 (.slice (some ⟨g2, 0, none⟩) m m) (vsFar xs m 0)) := by
      rw [vsFar_zero]
      show World.ownsRow _ _ _ _ _ _ _
      rw [List.length_replicate, ← hg2, ← made_newV]
      exact ho3
    have F3 : Hid (Fu w3 g xs) := F2.out.below b3
    have U3 : Hid (Uv w3 q sp0 (.slice none 0 0)) := U2.out.below b3
    have B3 : Hid (Below g w w3) := B2.out.trans (b3.mono (by have := HGQ.out; have := U2.out.lt; omega))
    have N3 : Hid (q < g2 ∧ g < g2) := by refine ⟨?_, ?_⟩ <;> (have := U2.out.lt; have := F2.out.lt; omega)
    rw [hg2]
    clear ho3 hg3 b3 F2 U2 B2 hj hy0 hy1 hy2 hg2
    go_wp2_with fail
    go_loopw [12] (fun i wr => ∃ k : Nat, k ≤ m ∧ i = .int .i64 k ∧ Hid (OwnsV wr (.slice (some ⟨g2, 0, none⟩) m m) (vsFar xs m k)) ∧ Hid (Fu wr g xs) ∧ Hid (Uv wr q sp0 (.slice none 0 0)) ∧ Hid (Below g w wr)) (fun i _ => m - (intOf i).toNat)
    case atStart => exact ⟨0, Nat.zero_le _, rfl, O3, F3, U3, B3⟩
    case round =>
      clear O3 F3 U3 B3
      obtain ⟨k, hk, rfl, O, F, U, B⟩ := hrel
      by_cases hlt : k < m
      · have hkl : (k : Int) < (m : Int) := by omega
        have hk9 : k ≤ 8 := by have := HM.out; omega
        obtain ⟨p1, hp⟩ : ∃ m, 11 * k = m := ⟨_, rfl⟩
        have hm1 : 11 * (k : Int) = (p1 : Int) := by omega
        obtain ⟨p, hpp⟩ : ∃ p, 15 + p1 = p := ⟨_, rfl⟩
        have hp1 : 15 + (p1 : Int) = (p : Int) := by omega
        have hp2 : p ≤ 103 := by omega
        have HPK : Hid (15 + 11 * k = p) := by show _ = _; omega
        have HV := hideP (version_any g p xs wr F.out (by omega))
        clear hp hpp
        go_wp2_with fail
        refine HV.out.mono ?_
        rintro e w4 ⟨rfl, b4⟩
        have O4 : Hid (OwnsV w4 (.slice (some ⟨g2, 0, none⟩) m m) (vsFar xs m k)) := O.out.below b4
        have F4 : Hid (Fu w4 g xs) := F.out.below b4
        have U4 : Hid (Uv w4 q sp0 (.slice none 0 0)) := U.out.below b4
        have B4 : Hid (Below g w w4) := B.out.trans (b4.mono (by have := HGQ.out; have := U.out.lt; omega))
        obtain ⟨x, hx⟩ : ∃ x, rdVn (fun x => x != 0) xs p = x := ⟨_, rfl⟩
        have HX : Hid ((vsFar xs m k).set k x = vsFar xs m (k + 1)) := by
          show _ = _
          rw [← hx, ← HPK.out]
          exact vsFar_step hlt
        rw [hx]
        have HT : Hid (w4.there g2 (k * 4) 4) := O4.out.there (by rw [vsFar_len (by omega)]; exact hlt)
        have hvl : k < (vsFar xs m k).length := by rw [vsFar_len (by omega)]; exact hlt
        obtain ⟨W5, hW5⟩ : ∃ W5, (((w4.setCell ⟨g2, k * 4, none⟩ (.int .i64 x.id)).setCell ⟨g2, k * 4 + 1, none⟩ (.int .i64 x.root)).setCell ⟨g2, k * 4 + 2, none⟩ (.int .i64 x.nx)).setCell ⟨g2, k * 4 + 3, none⟩ (.bool x.fx) = W5 := ⟨_, rfl⟩
        have e5 : w4.setCells g2 (k * 4) [.int .i64 x.id, .int .i64 x.root, .int .i64 x.nx, .bool x.fx] = W5 := by rw [← hW5]; rfl
        have O5 := O4.out.put (i := k) hvl x
        rw [HX.out, e5] at O5
        have T5 : Tch (fun j => j = g2) w4 W5 := by rw [← e5]; exact setCells_tchD g2 _ _ w4
        have F5 : Hid (Fu W5 g xs) := F4.out.tch T5 (by have := N3.out; omega)
        have U5 : Hid (Uv W5 q sp0 (.slice none 0 0)) := U4.out.tch T5 (by have := N3.out; omega)
        have B5 : Hid (Below g w W5) := B4.out.trans (T5.below (by have := HGQ.out; have := U4.out.lt; omega) (fun j e => by rw [e]; have := N3.out; omega))
        have O5 := hideP O5
        obtain ⟨z, hz⟩ : ∃ z, (vsFar xs m k)[k]? = some z := ⟨_, List.getElem?_eq_getElem hvl⟩
        obtain ⟨_, _, eb, ZC⟩ := O4.out.rd.at_ (Below.refl _ _) hz
        cases eb
        rw [Nat.zero_add] at ZC
        have z0 := ZC.c0
        have z1 := ZC.c1
        have z2 := ZC.c2
        have z3 := ZC.c3
        have y0 := (HT.out 0 (by decide)).2
        have y1 := (HT.out 1 (by decide)).2
        have y2 := (HT.out 2 (by decide)).2
        have y3 := (HT.out 3 (by decide)).2
        rw [Nat.add_zero] at y0
        obtain ⟨xi, hxi⟩ : ∃ n, x.id = n := ⟨_, rfl⟩
        obtain ⟨xr, hxr⟩ : ∃ n, x.root = n := ⟨_, rfl⟩
        obtain ⟨xn, hxn⟩ : ∃ n, x.nx = n := ⟨_, rfl⟩
        obtain ⟨xf, hxf⟩ : ∃ n, x.fx = n := ⟨_, rfl⟩
        unfold verv
        rw [hxi, hxr, hxn, hxf] at hW5
        rw [hxi, hxr, hxn, hxf]
        generalize z.id = zi at z0
        generalize z.root = zr at z1
        generalize z.nx = zn at z2
        generalize z.fx = zf at z3
        clear HX hx b4 O F U B O4 F4 U4 B4 T5 HV HPK HT ZC hz e5 hxi hxr hxn hxf hvl
        go_wp2_with fail
        go_roundw
        case rel => exact ⟨k + 1, by omega, by go_num, O5, F5, U5, B5⟩
        case measure => simp [intOf]; omega
      · have hkl : ¬ (k : Int) < (m : Int) := by omega
        have hkm : k = m := by omega
        rw [hkm, vsFar_end] at O
        have HN4 := hideP (numberU_any g 4 4 xs wr F.out (by decide) (by decide))
        clear hkm hlt
        go_wp2_with fail
        refine HN4.out.mono ?_
        rintro e w4 ⟨rfl, b4⟩
        have O4 : Hid (OwnsV w4 (.slice (some ⟨g2, 0, none⟩) m m) (rdVs (fun x => x != 0) xs m)) := O.out.below b4
        have F4 : Hid (Fu w4 g xs) := F.out.below b4
        have U4 : Hid (Uv w4 q sp0 (.slice none 0 0)) := U.out.below b4
        have B4 : Hid (Below g w w4) := B.out.trans (b4.mono (by have := HGQ.out; have := U.out.lt; omega))
        clear b4 O F U B HN4
        go_wp2_with fail
        refine (numberU_any g 8 2 xs w4 F4.out (by decide) (by decide)).mono ?_
        rintro e w5 ⟨rfl, b5⟩
        have O5 : Hid (OwnsV w5 (.slice (some ⟨g2, 0, none⟩) m m) (rdVs (fun x => x != 0) xs m)) := O4.out.below b5
        have F5 : Hid (Fu w5 g xs) := F4.out.below b5
        have U5 : Hid (Uv w5 q sp0 (.slice none 0 0)) := U4.out.below b5
        have B5 : Hid (Below g w w5) := B4.out.trans (b5.mono (by have := HGQ.out; have := U4.out.lt; omega))
        clear b5 O4 F4 U4 B4
        go_wp2_with fail
        refine (numberU_any g 10 4 xs w5 F5.out (by decide) (by decide)).mono ?_
        rintro e w6 ⟨rfl, b6⟩
        have O6 : Hid (OwnsV w6 (.slice (some ⟨g2, 0, none⟩) m m) (rdVs (fun x => x != 0) xs m)) := O5.out.below b6
        have U6 : Hid (Uv w6 q sp0 (.slice none 0 0)) := U5.out.below b6
        have B6 : Hid (Below g w w6) := B5.out.trans (b6.mono (by have := HGQ.out; have := U5.out.lt; omega))
        clear b6 O5 F5 U5 B5
        have HR : Hid (rdS (fun x => x != 0) xs m = ⟨vN (sl xs 4 4), vN (sl xs 8 2), vN (sl xs 10 4), rdVs (fun x => x != 0) xs m⟩) := rfl
        obtain ⟨n1, hn1⟩ : ∃ n, Hid (vN (sl xs 4 4) = n) := ⟨_, rfl⟩
        obtain ⟨n2, hn2⟩ : ∃ n, Hid (vN (sl xs 8 2) = n) := ⟨_, rfl⟩
        obtain ⟨n3, hn3⟩ : ∃ n, Hid (vN (sl xs 10 4) = n) := ⟨_, rfl⟩
        rw [hn1.out, hn2.out, hn3.out] at HR
        rw [hn1.out, hn2.out, hn3.out]
        have c0 : w6.cell? ⟨q, 0, none⟩ = some (.int .i64 0) := U6.out.c0
        have c1 : w6.cell? ⟨q, 1, none⟩ = some (.int .i64 0) := U6.out.c1
        have c2 : w6.cell? ⟨q, 2, none⟩ = some (.int .i64 0) := U6.out.c2
        have c3 := U6.out.c3
        have f0 := U6.out.fz 0
        have f1 := U6.out.fz 1
        have f2 := U6.out.fz 2
        have f3 := U6.out.fz 3
        have HP := hideP (U6.out.put ⟨n1, n2, n3, rdVs (fun x => x != 0) xs m⟩ (.slice (some ⟨g2, 0, none⟩) m m))
        have HT : Hid (Tch (fun j => j = q) w6 ((((w6.setCell ⟨q, 0, none⟩ (.int .i64 n1)).setCell ⟨q, 1, none⟩ (.int .i64 n2)).setCell ⟨q, 2, none⟩ (.int .i64 n3)).setCell ⟨q, 3, none⟩ (.slice (some ⟨g2, 0, none⟩) m m))) :=
          Tch.setCell (Tch.setCell (Tch.setCell (Tch.setCell (Tch.refl (fun j => j = q) w6) (p := ⟨q, 0, none⟩) (fun _ => rfl) _) (p := ⟨q, 1, none⟩) (fun _ => rfl) _) (p := ⟨q, 2, none⟩) (fun _ => rfl) _) (p := ⟨q, 3, none⟩) (fun _ => rfl) _
        go_wp2_with fail
        refine bodyPost_ret (v := supv ⟨n1, n2, n3, rdVs (fun x => x != 0) xs m⟩ (.slice (some ⟨g2, 0, none⟩) m m)) (results_atU (p := 2) (ty := 24) rfl _ _ _ q _ rfl HP.out.load) rfl ?_
        refine ⟨_, by rw [HR.out], O6.out.tch HT.out (fun j hj e => by cases hj; have e2 : g2 = q := e; have := N3.out; omega), ?_, fun j hj => by cases hj; rw [HQ.out]; show g ≤ g2; have := N3.out; omega⟩
        rw [HQ.out]
        exact B6.out.trans (HT.out.below (by have := HGQ.out; have := U6.out.lt; omega) (fun j e => by rw [e]; have := HGQ.out; omega))
end Go.Proofs.Ytdicgaepggffbaa
