import Derived.Test.YtobenjkacpipeaaGreatPPkStep
set_option maxRecDepth 100000
set_option linter.unusedVariables false
set_option linter.unusedSimpArgs false
set_option maxHeartbeats 8000000
namespace Go.Proofs.YtobenjkacpipeaaGreat
open Go.RowKit Pl Go.Maps Go.WideMaps Hf
structure Sg (n0 : Nat) (w W : World) (g B6 : Nat) (σ : Option (List Int)) (many : Int) (k : Nat) (V : Nat -> Value) : Prop where
 so : SoX n0 W g (sgS σ many k)
 b6 : W.heap[B6]? = some (.cells #[V 0, V 1, V 2] 125 (0, 0))
 own : ∀ i, i < k -> Owns .i64 3 W (V i) (sgX σ many i)
 new : ∀ i j, (V i).ownBlock = some j -> w.heap.size <= j /\ j ≠ B6
 tch : Tch (fun j => j = g) w W
 n6 : w.heap.size <= B6
 gl : g < w.heap.size
 wn : n0 <= w.heap.size
theorem set3 (x y z r : Value) (k : Nat) (hk : k < 3) : (#[x, y, z] : Array Value).setIfInBounds k r = #[if 0 = k then r else x, if 1 = k then r else y, if 2 = k then r else z] := by
 match k, hk with
 | 0, _ => rfl
 | 1, _ => rfl
 | 2, _ => rfl
section
variable {n0 : Nat} {w W W' : World} {g B6 : Nat} {σ : Option (List Int)} {many : Int} {k : Nat} {V : Nat -> Value}
theorem Sg.lt6 (h : Sg n0 w W g B6 σ many k V) : B6 < W.heap.size := (Array.getElem?_eq_some_iff.1 h.b6).1
theorem Sg.next (h : Sg n0 w W g B6 σ many k V) (hk : k < 3) {rv : Value} (hs : SoX n0 W' g (stmS (sgS σ many k) many).2) (ho : Owns .i64 3 W' rv (stmS (sgS σ many k) many).1) (hf : ∀ j, rv.ownBlock = some j -> W.heap.size <= j) (ht : Tch (fun j => j = g) W W') :
  Sg n0 w (W'.setCell ⟨B6, k, none⟩ rv) g B6 σ many (k + 1) (fun i => if i = k then rv else V i) := by
 have l6 := h.lt6
 have n6 := h.n6
 have gl := h.gl
 have wn := h.wn
 have hb6 : W'.heap[B6]? = some (.cells #[V 0, V 1, V 2] 125 (0, 0)) := by rw [ht.block B6 l6 (fun e => by omega)]; exact h.b6
 have t2 : Tch (fun j => j = B6) W' (W'.setCell ⟨B6, k, none⟩ rv) := (Tch.refl (fun j => j = B6) W').setCell (p := ⟨B6, k, none⟩) (fun _ => rfl) _
 refine ⟨hs.tch t2 (fun e => by omega) (fun j e => by omega), ?_, fun i hi => ?_, fun i j hj => ?_, (h.tch.trans ht (fun _ _ e => e)).trans t2 (fun i hi e => by omega), n6, gl, wn⟩
 ·rw [heap_setCell_same W' B6 k _ _ rv hb6]
  rw [set3 _ _ _ _ k hk]
 ·by_cases e : i = k
  ·subst e
   rw [if_pos rfl]
   exact ho.tch t2 (fun j hj e => by have := hf j hj; omega)
  ·rw [if_neg e]
   exact ((h.own i (by omega)).tch ht (fun j hj e => by have := (h.new i j hj).1; omega)).tch t2 (fun j hj e => (h.new i j hj).2 e)
 ·by_cases e : i = k
  ·subst e
   simp only [if_true] at hj
   have := hf j hj
   have := h.tch.size
   omega
  ·simp only [e, if_false] at hj
   exact h.new i j hj
end
theorem zrm9 (n : Nat) : (madeCells (Value.agg #[.int .i64 0, .int .i64 0, .int .i64 0]).cells (n * 3)).toList = scells (List.replicate n sq0) := by
 have hl : (madeCells (Value.agg #[.int .i64 0, .int .i64 0, .int .i64 0]).cells (n * 3)).toList.length = n * 3 := by rw [Array.length_toList, size_madeCells]
 apply List.ext_getElem?
 intro i
 by_cases hi : i < n * 3
 ·have h1 : (madeCells (Value.agg #[.int .i64 0, .int .i64 0, .int .i64 0]).cells (n * 3)).toList[i]? = some (.int .i64 0) := by
   simp only [madeCells, Value.cells, Array.toList_map, List.getElem?_map, Array.toList_range, List.getElem?_range hi, Option.map_some]
   congr 1
   have h3 : i % 3 = 0 ∨ i % 3 = 1 ∨ i % 3 = 2 := by omega
   have e3 : (#[Value.int .i64 0, Value.int .i64 0, Value.int .i64 0] : Array Value).size = 3 := rfl
   rw [e3]
   rcases h3 with h | h | h <;> rw [h] <;> rfl
  rw [h1]
  have hg := zho9 (List.replicate n sq0) (i / 3) (by simp; omega)
  have h0 : (List.replicate n sq0).getD (i / 3) sq0 = sq0 := by rw [List.getD_eq_getElem?_getD, List.getElem?_replicate]; split <;> rfl
  rw [h0] at hg
  have h3 : i = i / 3 * 3 ∨ i = i / 3 * 3 + 1 ∨ i = i / 3 * 3 + 2 := by omega
  rcases h3 with h | h | h
  ·rw [h, hg.1]; rfl
  ·rw [h, hg.2.1]; rfl
  ·rw [h, hg.2.2]; rfl
 ·rw [List.getElem?_eq_none (by omega), List.getElem?_eq_none (by rw [zdx9, List.length_replicate]; omega)]
theorem zqr9 (ps qs : List Sq) (x y : Sq) : (((scells (ps ++ x :: qs)).set (ps.length * 3) (.int .i64 y.1)).set (ps.length * 3 + 1) (.int .i64 y.2.1)).set (ps.length * 3 + 2) (.int .i64 y.2.2) = scells (ps ++ y :: qs) := by
 have hl := zdx9 ps
 have e : ∀ z : Sq, scells (ps ++ z :: qs) = scells ps ++ [Value.int .i64 z.1, Value.int .i64 z.2.1, Value.int .i64 z.2.2] ++ scells qs := fun z => by simp [scells]
 rw [e x, e y, <- hl, List.append_assoc, List.append_assoc, List.set_append_right _ _ (by omega), List.set_append_right _ _ (by omega), List.set_append_right _ _ (by omega)]
 simp [Nat.sub_self]
theorem OwnsS.set {w : World} {G m cap : Nat} {ps qs : List Sq} {x : Sq} (h : OwnsS w (.slice (some ⟨G, 0, none⟩) m cap) (ps ++ x :: qs)) (y : Sq) :
  OwnsS (((w.setCell ⟨G, ps.length * 3, none⟩ (.int .i64 y.1)).setCell ⟨G, ps.length * 3 + 1, none⟩ (.int .i64 y.2.1)).setCell ⟨G, ps.length * 3 + 2, none⟩ (.int .i64 y.2.2)) (.slice (some ⟨G, 0, none⟩) m cap) (ps ++ y :: qs) := by
 have h' : w.ownsRow 0 55 3 (.slice (some ⟨G, 0, none⟩) m cap) (ps ++ x :: qs).length (scells (ps ++ x :: qs)) := h
 have hm : m = (ps ++ x :: qs).length := by
  rcases h'.2 with ⟨e, _⟩ | ⟨g', cap', cur, e, _⟩
  ·cases e
  ·simp only [Value.slice.injEq] at e; exact e.2.1
 subst hm
 have h1 := (h'.stored (ps.length * 3) (.int .i64 y.1)).1
 have h2 := (h1.stored (ps.length * 3 + 1) (.int .i64 y.2.1)).1
 have h3 := (h2.stored (ps.length * 3 + 2) (.int .i64 y.2.2)).1
 unfold OwnsS
 rw [show (ps ++ y :: qs).length = (ps ++ x :: qs).length by simp, <- zqr9 ps qs x y]
 exact h3
structure Sm (n0 : Nat) (w W : World) (g rb G B6 m : Nat) (rv : Value) (ys a b c : List Int) (σ : Option (List Int)) (V : Nat -> Value) (i : Nat) : Prop where
 so : SoX n0 W g (askS σ (stN ys a b c i).2)
 rr : Rr W rb rv ys (stN ys a b c i).1
 own : OwnsS W (.slice (some ⟨G, 0, none⟩) m m) (seqN ys a b c i ++ List.replicate (m - i) sq0)
 b6 : W.heap[B6]? = some (.cells #[V 0, V 1, V 2] 125 (0, 0))
 oa : Owns .i64 3 W (V 0) a
 ob : Owns .i64 3 W (V 1) b
 oc : Owns .i64 3 W (V 2) c
 tch : Tch (fun j => j = g) w W
 vn : ∀ i j, i < 3 -> (V i).ownBlock = some j -> w.heap.size <= j /\ j < rb
 gl : g < w.heap.size
 rl : w.heap.size <= rb
 n6 : w.heap.size <= B6
 l6 : B6 < rb
 rG : rb < G
 vr : ∀ k, rv.ownBlock = some k -> w.heap.size <= k /\ k < G
 wn : n0 <= w.heap.size
theorem zrx9 (ys a b c : List Int) (i : Nat) : seqN ys a b c (i + 1) = seqN ys a b c i ++ [seqAt ys a b c i] := by simp [seqN, List.range_succ]
theorem zdi9 (ys a b c : List Int) (i : Nat) : (seqN ys a b c i).length = i := by simp [seqN]
section
variable {n0 : Nat} {w W W' : World} {g rb G B6 m : Nat} {rv : Value} {ys a b c : List Int} {σ : Option (List Int)} {V : Nat -> Value} {i : Nat}
theorem Sm.next (h : Sm n0 w W g rb G B6 m rv ys a b c σ V i) (hi : i < m) (hs : SoX n0 W' g (askS (askS σ (stN ys a b c i).2) (stq ys (c3 a b c i) (stN ys a b c i).1 3).2))
  (hr : Rr W' rb rv ys (stq ys (c3 a b c i) (stN ys a b c i).1 3).1) (ht : Tch (fun k => k = g ∨ k = rb) W W') :
  Sm n0 w (((W'.setCell ⟨G, i * 3, none⟩ (.int .i64 (seqAt ys a b c i).1)).setCell ⟨G, i * 3 + 1, none⟩ (.int .i64 (seqAt ys a b c i).2.1)).setCell ⟨G, i * 3 + 2, none⟩ (.int .i64 (seqAt ys a b c i).2.2)) g rb G B6 m rv ys a b c σ V (i + 1) := by
 obtain ⟨so, rr, own, b6, oa, ob, oc, tch, vn, gl, rl, n6, l6, rG, vr, wn⟩ := h
 have hrb : rb < W.heap.size := rr.lt
 have hz : List.replicate (m - i) sq0 = sq0 :: List.replicate (m - (i + 1)) sq0 := by rw [show m - i = (m - (i + 1)) + 1 by omega]; rfl
 rw [hz] at own
 have hGl : G < W.heap.size := (Array.getElem?_eq_some_iff.1 (zv9 own rfl).choose_spec).1
 have own' : OwnsS W' (.slice (some ⟨G, 0, none⟩) m m) (seqN ys a b c i ++ sq0 :: List.replicate (m - (i + 1)) sq0) := own.tch ht (fun j hj => by simp only [Value.ownBlock, Option.some.injEq] at hj; omega)
 have hset := own'.set (seqAt ys a b c i)
 rw [zdi9] at hset
 obtain ⟨y, hy⟩ : ∃ y, seqAt ys a b c i = y := ⟨_, rfl⟩
 have hsq := zrx9 ys a b c i
 rw [hy] at hset hsq ⊢
 have t2 : Tch (fun k => k = G) W' (((W'.setCell ⟨G, i * 3, none⟩ (.int .i64 y.1)).setCell ⟨G, i * 3 + 1, none⟩ (.int .i64 y.2.1)).setCell ⟨G, i * 3 + 2, none⟩ (.int .i64 y.2.2)) :=
  (((Tch.refl (fun k => k = G) W').setCell (p := ⟨G, i * 3, none⟩) (fun _ => rfl) _).setCell (p := ⟨G, i * 3 + 1, none⟩) (fun _ => rfl) _).setCell (p := ⟨G, i * 3 + 2, none⟩) (fun _ => rfl) _
 generalize ((W'.setCell ⟨G, i * 3, none⟩ (.int .i64 y.1)).setCell ⟨G, i * 3 + 1, none⟩ (.int .i64 y.2.1)).setCell ⟨G, i * 3 + 2, none⟩ (.int .i64 y.2.2) = W2 at hset t2 ⊢
 rw [zjb9] at hs
 have l6' : B6 < W.heap.size := (Array.getElem?_eq_some_iff.1 b6).1
 have hWW := ht.size
 refine ⟨hs.tch t2 (fun e => by omega) (fun j e => by omega), hr.tch t2 (fun e => by omega) (fun k hk e => by have := (vr k hk).2; omega), ?_, ?_, ?_, ?_, ?_, ?_, vn, gl, rl, n6, l6, rG, vr, wn⟩
 ·rw [hsq, List.append_assoc]; exact hset
 ·rw [t2.block B6 (by omega) (fun e => by omega), ht.block B6 l6' (fun e => by omega)]; exact b6
 ·exact (oa.tch ht (fun j hj e => by have := vn 0 j (by omega) hj; omega)).tch t2 (fun j hj e => by have := vn 0 j (by omega) hj; omega)
 ·exact (ob.tch ht (fun j hj e => by have := vn 1 j (by omega) hj; omega)).tch t2 (fun j hj e => by have := vn 1 j (by omega) hj; omega)
 ·exact (oc.tch ht (fun j hj e => by have := vn 2 j (by omega) hj; omega)).tch t2 (fun j hj e => by have := vn 2 j (by omega) hj; omega)
 ·exact (tch.trans ht (fun j hj e => by rcases e with e | e; (· exact e); (· omega))).trans t2 (fun j hj e => by omega)
end
theorem zzv9 (w : World) : RdS w (.slice none 0 0) [] := ⟨none, 0, rfl, Nat.le_refl _, by unfold maxLen; omega, .inl rfl⟩
def SPost (n0 g : Nat) (R : List Sq × Option (List Int)) (w : World) (e : Ending) (w' : World) : Prop :=
 ∃ rv, e = .returned rv /\ RdS w' rv R.1 /\ (∀ k, rv.ownBlock = some k -> w.heap.size <= k) /\ SoX n0 w' g R.2 /\ Tch (fun k => k = g) w w'
theorem SPost.nil {n0 g : Nat} {σ : Option (List Int)} {w w' : World} (hs : SoX n0 w' g σ) (ht : Tch (fun k => k = g) w w') : SPost n0 g ([], σ) w (.returned (.slice none 0 0)) w' :=
 ⟨_, rfl, zzv9 _, (fun k e => by cases e), hs, ht⟩
theorem zij9 (n0 g : Nat) (σ : Option (List Int)) (n : Nat) (w : World) (h : SoX n0 w g σ) (hn : n <= 65536) (hwn : n0 <= w.heap.size) :
  Calls Tryz.prog 72 #[.pointer (some ⟨g, 0, none⟩), .int .i64 (n : Int)] w fun e w' => SPost n0 g (stpS σ n) w e w' := by
 have H : Hid (SoX n0 w g σ) := h
 have hmb := zfs9 h.bys
 have hgl := h.lt
 have HGL : Hid (g < w.heap.size /\ n0 <= w.heap.size) := ⟨hgl, hwn⟩
 clear h hgl hwn
 unfold stpS
 obtain ⟨ms, hms⟩ : ∃ ms, Hid (numS σ = ms) := ⟨_, rfl⟩
 have HN := zef9 n0 g σ w H.out
 rw [hms.out] at hmb HN ⊢
 obtain ⟨m0, σ1⟩ := ms
 simp only at hmb HN ⊢
 obtain ⟨m, rfl⟩ := Int.eq_ofNat_of_zero_le hmb.1
 have hm32 : m <= 4294967295 := by omega
 have HN2 : Hid (Calls Tryz.prog 43 #[.pointer (some ⟨g, 0, none⟩)] w fun e w' => e = .returned (.int .i64 (m : Int)) /\ SoX n0 w' g σ1 /\ Tch (fun k => k = g) w w') := HN
 clear HN hmb
 obtain ⟨n4, hn4⟩ : ∃ n4 : Nat, (n : Int) / 4 = (n4 : Int) := ⟨n / 4, by omega⟩
 have hn4b : n4 <= 16384 := by omega
 have hq : ((n : Int)).tdiv 4 = (n4 : Int) := by rw [Int.tdiv_eq_ediv_of_nonneg (by omega)]; exact hn4
 rw [hn4]
 by_cases hle : (m : Int) <= (n4 : Int)
 ·have hleb : decide ((m : Int) <= (n4 : Int)) = true := by rw [decide_eq_true_eq]; exact hle
  have hleb2 : decide (m <= n4) = true := by rw [decide_eq_true_eq]; omega
  cases σ1 with
  | none =>
   rw [if_neg (by simp)]
   clear hle hn4
   go_enter Tryz.func72, Tryz.ntmps72
   go_wp2_with fail
   refine HN2.out.mono ?_
   clear HN2
   rintro e w1 ⟨rfl, hs1, ht1⟩
   have S1 : Hid (SoX n0 w1 g none) := hs1
   have T1 : Hid (Tch (fun k => k = g) w w1) := ht1
   clear hs1 ht1
   go_wp2_with fail
   refine (zak9 n0 g none true w1 S1.out).mono ?_
   rintro e w2 ⟨rfl, hs2, ht2⟩
   have S2 : Hid (SoX n0 w2 g none) := hs2
   have T2 : Hid (Tch (fun k => k = g) w w2) := T1.out.trans ht2 (fun _ _ e => e)
   clear hs2 ht2 S1 T1
   simp only [askS, Option.isSome_none, if_true]
   go_wp2_with fail
   go_ret
   exact SPost.nil S2.out T2.out
  | some l1 =>
   rw [if_pos ⟨hle, rfl⟩]
   by_cases hm0 : m = 0
   ·have hmz : ((m : Int) == 0) = true := by simp [hm0]
    rw [if_pos (show (m : Int) = 0 by omega)]
    clear hle hn4 hm0
    go_enter Tryz.func72, Tryz.ntmps72
    go_wp2_with fail
    refine HN2.out.mono ?_
    clear HN2
    rintro e w1 ⟨rfl, hs1, ht1⟩
    have S1 : Hid (SoX n0 w1 g (some l1)) := hs1
    have T1 : Hid (Tch (fun k => k = g) w w1) := ht1
    clear hs1 ht1
    go_wp2_with fail
    refine (zak9 n0 g (some l1) true w1 S1.out).mono ?_
    rintro e w2 ⟨rfl, hs2, ht2⟩
    have S2 : Hid (SoX n0 w2 g (some l1)) := hs2
    have T2 : Hid (Tch (fun k => k = g) w w2) := T1.out.trans ht2 (fun _ _ e => e)
    clear hs2 ht2 S1 T1
    simp only [askS, Option.isSome_some, if_true]
    go_wp2_with fail
    go_ret
    exact SPost.nil S2.out T2.out
   ·rw [if_neg (by omega), Int.toNat_natCast]
    have hmz : ((m : Int) == 0) = false := by rw [beq_eq_false_iff_ne]; omega
    have hm1 : 1 <= m := by omega
    have hm2 : m <= 16384 := by omega
    clear hle hn4 hm0
    obtain ⟨zs, hzs⟩ : ∃ zs, Hid (sizedS (sgS (some l1) (m : Int) 3) = zs) := ⟨_, rfl⟩
    rw [hzs.out]
    obtain ⟨ys, σ4⟩ := zs
    simp only
    obtain ⟨xa, hxa⟩ : ∃ xa, Hid (sgX (some l1) (m : Int) 0 = xa) := ⟨_, rfl⟩
    obtain ⟨xb, hxb⟩ : ∃ xb, Hid (sgX (some l1) (m : Int) 1 = xb) := ⟨_, rfl⟩
    obtain ⟨xc, hxc⟩ : ∃ xc, Hid (sgX (some l1) (m : Int) 2 = xc) := ⟨_, rfl⟩
    rw [hxa.out, hxb.out, hxc.out]
    obtain ⟨R, hR⟩ : ∃ R, Hid ((if σ4.isSome = true then (seqN ys xa xb xc m, askS σ4 ((stN ys xa xb xc m).2 && fillsB ys (stN ys xa xb xc m).1)) else ([], none)) = R) := ⟨_, rfl⟩
    rw [hR.out]
    go_enter Tryz.func72, Tryz.ntmps72
    go_wp2_with fail
    refine HN2.out.mono ?_
    clear HN2
    rintro e w1 ⟨rfl, hs1, ht1⟩
    have S1 : Hid (SoX n0 w1 g (some l1)) := hs1
    have T1 : Hid (Tch (fun k => k = g) w w1) := ht1
    clear hs1 ht1
    go_wp2_with fail
    refine (zak9 n0 g (some l1) true w1 S1.out).mono ?_
    rintro e w2 ⟨rfl, hs2, ht2⟩
    have S2 : Hid (SoX n0 w2 g (some l1)) := hs2
    have T2 : Hid (Tch (fun k => k = g) w w2) := T1.out.trans ht2 (fun _ _ e => e)
    clear hs2 ht2 S1 T1
    simp only [askS, Option.isSome_some, if_true]
    go_wp2_with fail
    obtain ⟨W0, hW0⟩ : ∃ W0, Hid (w2.alloc (.cells #[.slice none 0 0, .slice none 0 0, .slice none 0 0] 125) = W0) := ⟨_, rfl⟩
    rw [hW0.out]
    obtain ⟨B6, hB6⟩ : ∃ B6, Hid (w2.heap.size = B6) := ⟨_, rfl⟩
    rw [hB6.out]
    have G0 : Hid (Sg n0 w W0 g B6 (some l1) (m : Int) 0 (fun _ => .slice none 0 0)) := by
     have hb : Below w2.heap.size w2 W0 := by rw [<- hW0.out]; exact (Below.refl _ _).alloc (Nat.le_refl _) _
     refine ⟨S2.out.below hb, ?_, (fun i hi => by omega), (fun i j e => by cases e), T2.out.trans (Tch.of_below (S := fun k => k = g) hb) (fun _ _ e => e), by rw [<- hB6.out]; exact T2.out.size, HGL.out.1, HGL.out.2⟩
     rw [<- hW0.out, <- hB6.out]
     exact heap_alloc_new w2 _
    clear hW0 hB6 S2 T2
    go_loopw [24] (fun i wr => ∃ (k : Nat) (V : Nat -> Value), k <= 3 /\ i = .int .i64 k /\ Hid (Sg n0 w wr g B6 (some l1) (m : Int) k V)) (fun i _ => 3 - (intOf i).toNat)
    case atStart => exact ⟨0, _, by omega, rfl, G0⟩
    case round =>
     clear G0
     obtain ⟨k, V, hk, rfl, G⟩ := hrel
     by_cases hlt : k < 3
     ·have hki : (k : Int) < 3 := by omega
      have hki0 : (0 : Int) <= (k : Int) := by omega
      go_wp2_with fail
      refine (zhh9 n0 g (sgS (some l1) (m : Int) k) (m : Int) wr G.out.so).mono ?_
      rintro e w3 ⟨rv, rfl, ho3, hf3, hs3, ht3⟩
      have G3 : Hid (Sg n0 w (w3.setCell ⟨B6, k, none⟩ rv) g B6 (some l1) (m : Int) (k + 1) (fun i => if i = k then rv else V i)) := G.out.next hlt hs3 ho3 hf3 ht3
      have hb6 : w3.heap[B6]? = some (.cells #[V 0, V 1, V 2] 125 (0, 0)) := by
       rw [ht3.block B6 G.out.lt6 (fun e => by have := G.out.n6; have := G.out.gl; omega)]
       exact G.out.b6
      have c6 : ∃ v6, w3.cell? ⟨B6, k, none⟩ = some v6 := by
       rw [cell_of_row w3 B6 k _ _ (0, 0) hb6]
       match k, hlt with
       | 0, _ => exact ⟨_, rfl⟩
       | 1, _ => exact ⟨_, rfl⟩
       | 2, _ => exact ⟨_, rfl⟩
      obtain ⟨v6, c6⟩ := c6
      have f6 := frozen_of_row w3 B6 k _ _ hb6
      obtain ⟨ra, rc, hrv, _⟩ := ho3.rd
      obtain ⟨rl, hrl⟩ : ∃ rl, Hid ((stmS (sgS (some l1) (m : Int) k) (m : Int)).1.length = rl) := ⟨_, rfl⟩
      rw [hrl.out] at hrv
      clear ho3 hf3 hs3 ht3 hb6 G
      subst hrv
      go_wp2_with fail
      go_roundw
      case rel => exact ⟨k + 1, _, by omega, by go_num, G3⟩
      case measure => simp [intOf]; omega
     ·obtain rfl : k = 3 := by omega
      clear hlt
      have HTK := zdo9 n0 g (sgS (some l1) (m : Int) 3) wr G.out.so
      rw [hzs.out] at HTK
      have HTK2 : Hid (Calls Tryz.prog 104 #[.pointer (some ⟨g, 0, none⟩)] wr fun e w' => ∃ rv, e = .returned rv /\ Tk n0 w' rv ys /\ SoX n0 w' g σ4 /\ Tch (fun k => k = g) wr w') := HTK
      have HYL : Hid (ys.length <= 140737488355328) := by
       show _ <= _
       obtain ⟨lv3, h1⟩ := G.out.so
       have h2 := zfe9 (sgS (some l1) (m : Int) 3)
       rw [hzs.out] at h2
       have := h1.small
       simp only at h2
       omega
      clear HTK
      go_wp2_with fail
      refine HTK2.out.mono ?_
      clear HTK2
      rintro e w3 ⟨rv3, rfl, hk3, hs3, ht3⟩
      have K3 : Hid (Tk n0 w3 rv3 ys) := hk3
      have S3 : Hid (SoX n0 w3 g σ4) := hs3
      have T3 : Hid (Tch (fun k => k = g) wr w3) := ht3
      clear hk3 hs3 ht3
      go_wp2_with fail
      refine (zbv9 rv3 ys w3 K3.out.rd K3.out.bys HYL.out).mono ?_
      rintro e w4 ⟨rb, rvr, rfl, hr4, hb4, hn4, hm4⟩
      obtain ⟨lv4, S4⟩ : ∃ lv4, Hid (So n0 w4 g lv4 σ4) := by obtain ⟨lv, h⟩ := S3.out.below hb4; exact ⟨lv, h⟩
      have R4 : Hid (Rr w4 rb rvr ys 0) := hr4
      have B4 : Hid (Below w3.heap.size w3 w4) := hb4
      have N4 : Hid (w3.heap.size <= rb) := hn4
      have M4 : Hid (∀ k, rvr.ownBlock = some k -> w3.heap.size <= k) := hm4
      have c1 := S4.out.c1
      clear hr4 hb4 hn4 hm4 K3 S3
      cases hσ : σ4 with
      | none =>
       rw [hσ] at c1
       simp only [Option.isNone_none] at c1
       have HR : Hid (R = ([], none)) := by show _ = _; rw [<- hR.out, hσ]; rfl
       have S5 : Hid (SoX n0 w4 g none) := by rw [<- hσ]; exact ⟨lv4, S4.out⟩
       have T5 : Hid (Tch (fun k => k = g) w w4) := (G.out.tch.trans T3.out (fun _ _ e => e)).trans (Tch.of_below (S := fun k => k = g) B4.out) (fun _ _ e => e)
       clear hR hσ S4 G T3 R4 B4 M4
       go_wp2_with fail
       go_ret
       rw [HR.out]
       exact SPost.nil S5.out T5.out
      | some l4 =>
       rw [hσ] at c1
       simp only [Option.isNone_some] at c1
       have HR : Hid (R = (seqN ys xa xb xc m, askS (some l4) ((stN ys xa xb xc m).2 && fillsB ys (stN ys xa xb xc m).1))) := by show _ = _; rw [<- hR.out, hσ]; rfl
       have HSG : Hid ((sgS (some l1) (m : Int) 3).isSome = true) := zdk9 (by rw [hzs.out, hσ]; rfl)
       have hka := sg_ok HSG.out 0 (by omega)
       have hkb := sg_ok HSG.out 1 (by omega)
       have hkc := sg_ok HSG.out 2 (by omega)
       rw [hxa.out] at hka
       rw [hxb.out] at hkb
       rw [hxc.out] at hkc
       have HKA : Hid (xa.length = m /\ ∀ i, 0 <= xa.getD i 0 /\ xa.getD i 0 <= 16) := ⟨by omega, hka.2⟩
       have HKB : Hid (xb.length = m /\ ∀ i, 0 <= xb.getD i 0 /\ xb.getD i 0 <= 16) := ⟨by omega, hkb.2⟩
       have HKC : Hid (xc.length = m /\ ∀ i, 0 <= xc.getD i 0 /\ xc.getD i 0 <= 16) := ⟨by omega, hkc.2⟩
       have S4' : Hid (So n0 w4 g lv4 (some l4)) := by rw [<- hσ]; exact S4.out
       clear hR hσ S4 hka hkb hkc HSG
       obtain ⟨i0, hi, hz0, hz1, hz2⟩ := info_parts infoS
       go_wp2_with (at_make; refine wpList_make_full _ rfl (.tmp 40) (.tmp 40) 39 rfl 0 55 i0 _ 3 Tryz.underlying39 hi hz0 hz1 .i64 .i64 _ _ m rfl rfl (by first | rfl | omega) (by first | rfl | omega) (by rw [hz2]; omega) (by unfold maxLen; omega) (Nat.zero_le _) ?_)
       intro w5 ho5 hg5
       obtain ⟨Gb, hGb⟩ : ∃ Gb, Hid (w4.heap.size = Gb) := ⟨_, rfl⟩
       rw [hGb.out] at ho5 ⊢
       have M5 : Hid (Sm n0 w w5 g rb Gb B6 m rvr ys xa xb xc (some l4) V 0) := by
        have b5 : Below w4.heap.size w4 w5 := (Below.refl _ _).grown hg5 (Nat.le_refl _) (fun k e => by cases e)
        have t3 := T3.out.size
        have tw := G.out.tch.size
        have gl := G.out.gl
        have n6 := G.out.n6
        have l6 := G.out.lt6
        have N4' := N4.out
        have rl4 := R4.out.lt
        have t35 : Tch (fun k => k = g) wr w5 := (T3.out.trans (Tch.of_below (S := fun k => k = g) B4.out) (fun _ _ e => e)).trans (Tch.of_below (S := fun k => k = g) b5) (fun _ _ e => e)
        have hO : ∀ i, i < 3 -> Owns .i64 3 w5 (V i) (sgX (some l1) (m : Int) i) := fun i hi => (G.out.own i hi).tch t35 (fun j hj e => by have := (G.out.new i j hj).1; omega)
        have hVl : ∀ i j, i < 3 -> (V i).ownBlock = some j -> j < wr.heap.size := fun i j hi hj => (G.out.own i hi).lt j hj
        have h0 := hO 0 (by omega)
        have h1 := hO 1 (by omega)
        have h2 := hO 2 (by omega)
        rw [hxa.out] at h0
        rw [hxb.out] at h1
        rw [hxc.out] at h2
        refine ⟨⟨lv4, S4'.out.below b5⟩, R4.out.below b5, ?_, ?_, h0, h1, h2, G.out.tch.trans t35 (fun _ _ e => e), ?_, gl, by omega, n6, by omega, by rw [<- hGb.out]; exact rl4, fun k hk => ?_, HGL.out.2⟩
        ·have e5 : OwnsS w5 (.slice (some ⟨Gb, 0, none⟩) m m) (List.replicate m sq0) := by
          unfold OwnsS
          rw [List.length_replicate, <- zrm9]
          exact ho5
         simpa [seqN] using e5
        ·rw [t35.block B6 l6 (fun e => by omega)]
         exact G.out.b6
        ·intro i j hi hj
         have h3 := hVl i j hi hj
         have h4 := (G.out.new i j hj).1
         omega
        ·have h3 := M4.out k hk
         have h4 := R4.out.own.lt k hk
         rw [hGb.out] at h4
         exact ⟨by omega, h4⟩
       clear ho5 hg5 hi hz0 hz1 hz2 S4' R4 B4 M4 T3 G c1 N4
       obtain ⟨sb, sc, hV⟩ : ∃ sb sc : Nat -> Nat, ∀ i, i < 3 -> V i = .slice (some ⟨sb i, 0, none⟩) m (sc i) := by
        refine ⟨fun i => match V i with | .slice (some a) _ _ => a.block | _ => 0, fun i => match V i with | .slice _ _ c => c | _ => 0, fun i hi => ?_⟩
        have hx : ∃ xs : List Int, xs.length = m /\ Owns .i64 3 w5 (V i) xs := by
         match i, hi with
         | 0, _ => exact ⟨xa, HKA.out.1, M5.out.oa⟩
         | 1, _ => exact ⟨xb, HKB.out.1, M5.out.ob⟩
         | 2, _ => exact ⟨xc, HKC.out.1, M5.out.oc⟩
        obtain ⟨xs, hxl, hxo⟩ := hx
        obtain ⟨g', c', e', _⟩ := hxo.shape (by omega)
        rw [hxl] at e'
        simp only [e']
       have HV : Hid (∀ i, i < 3 -> V i = .slice (some ⟨sb i, 0, none⟩) m (sc i)) := hV
       clear hV
       go_wp2_with fail
       go_loopw [44] (fun i wr => ∃ k : Nat, k <= m /\ i = .int .i64 k /\ Hid (Sm n0 w wr g rb Gb B6 m rvr ys xa xb xc (some l4) V k)) (fun i _ => m - (intOf i).toNat)
       case atStart => exact ⟨0, by omega, rfl, M5⟩
       case round =>
        rename_i wrOld
        clear M5
        obtain ⟨i, hi, rfl, M⟩ := hrel
        by_cases hlt : i < m
        ·have hb6 := M.out.b6
         rw [HV.out 0 (by omega), HV.out 1 (by omega), HV.out 2 (by omega)] at hb6
         have d0 : wr.cell? ⟨B6, 0, none⟩ = some (.slice (some ⟨sb 0, 0, none⟩) m (sc 0)) := by rw [cell_of_row wr B6 0 _ _ (0, 0) hb6]; rfl
         have d1 : wr.cell? ⟨B6, 1, none⟩ = some (.slice (some ⟨sb 1, 0, none⟩) m (sc 1)) := by rw [cell_of_row wr B6 1 _ _ (0, 0) hb6]; rfl
         have d2 : wr.cell? ⟨B6, 2, none⟩ = some (.slice (some ⟨sb 2, 0, none⟩) m (sc 2)) := by rw [cell_of_row wr B6 2 _ _ (0, 0) hb6]; rfl
         clear hb6
         have HCX : Hid (∀ j, j < 3 -> wr.cell? ⟨sb j, 0 + i, none⟩ = some (.int .i64 (c3 xa xb xc i j))) := fun j hj => by
          have hx : ∃ xs : List Int, xs.length = m /\ Owns .i64 3 wr (V j) xs /\ c3 xa xb xc i j = xs.getD i 0 := by
           match j, hj with
           | 0, _ => exact ⟨xa, HKA.out.1, M.out.oa, rfl⟩
           | 1, _ => exact ⟨xb, HKB.out.1, M.out.ob, rfl⟩
           | 2, _ => exact ⟨xc, HKC.out.1, M.out.oc, rfl⟩
          obtain ⟨xs, hxl, hxo, hxe⟩ := hx
          obtain ⟨g', c', e', _, _, _, hcc, _⟩ := hxo.shape (by omega)
          rw [HV.out j hj] at e'
          simp only [Value.slice.injEq, Option.some.injEq, Addr.mk.injEq, and_true, true_and] at e'
          rw [e'.1, Nat.zero_add, hcc i (by omega), hxe]
         have HC16 : Hid (∀ j, j < 3 -> 0 <= c3 xa xb xc i j /\ c3 xa xb xc i j <= 16) := fun j hj => by
          match j, hj with
          | 0, _ => exact HKA.out.2 i
          | 1, _ => exact HKB.out.2 i
          | 2, _ => exact HKC.out.2 i
         have HSB : Hid (∀ j, j < 3 -> sb j ≠ g /\ sb j ≠ rb) := fun j hj => by
          have h1 := M.out.vn j (sb j) hj (by rw [HV.out j hj]; rfl)
          have := M.out.gl
          omega
         have HST := zjl9 n0 g rb _ rvr ys _ i (c3 xa xb xc i) sb (fun _ => 0) (fun _ => m) sc wr M.out.so M.out.rr (by have := M.out.gl; have := M.out.rl; omega) (by have := M.out.rl; have := M.out.wn; omega)
          (fun e => by have := (M.out.vr g e).1; have := M.out.gl; omega) (by have := M.out.tch.size; have := M.out.wn; omega) HCX.out (fun _ _ => hlt) HC16.out HSB.out
         have HST2 : Hid (Calls Tryz.prog 105 #[.pointer (some ⟨g, 0, none⟩), .pointer (some ⟨rb, 0, none⟩), .agg #[.slice (some ⟨sb 0, 0, none⟩) m (sc 0), .slice (some ⟨sb 1, 0, none⟩) m (sc 1), .slice (some ⟨sb 2, 0, none⟩) m (sc 2)], .int .i64 (i : Int)] wr fun e w' =>
           e = .returned (.agg #[.int .i64 (seqAt ys xa xb xc i).1, .int .i64 (seqAt ys xa xb xc i).2.1, .int .i64 (seqAt ys xa xb xc i).2.2]) /\ SoX n0 w' g (askS (askS (some l4) (stN ys xa xb xc i).2) (stq ys (c3 xa xb xc i) (stN ys xa xb xc i).1 3).2) /\ Rr w' rb rvr ys (stq ys (c3 xa xb xc i) (stN ys xa xb xc i).1 3).1 /\ Tch (fun k => k = g ∨ k = rb) wr w') := HST
         clear HST HCX HC16 HSB
         go_wp2_with fail
         refine HST2.out.mono ?_
         clear HST2
         rintro e w6 ⟨rfl, hs6, hr6, ht6⟩
         have M6 := M.out.next hlt hs6 hr6 ht6
         have hO6 : OwnsS w6 (.slice (some ⟨Gb, 0, none⟩) m m) (seqN ys xa xb xc i ++ List.replicate (m - i) sq0) := M.out.own.tch ht6 (fun j hj => by have := M.out.rG; have := M.out.gl; have := M.out.rl; simp only [Value.ownBlock, Option.some.injEq] at hj; omega)
         have hl7 : (seqN ys xa xb xc i ++ List.replicate (m - i) sq0).length = m := by rw [List.length_append, zdi9, List.length_replicate]; omega
         have hO6' : w6.ownsRow 0 55 3 (.slice (some ⟨Gb, 0, none⟩) m m) m (scells (seqN ys xa xb xc i ++ List.replicate (m - i) sq0)) := by
          have h := hO6
          unfold OwnsS at h
          rw [hl7] at h
          exact h
         have hfz : ∀ j, w6.frozen? ⟨Gb, j, none⟩ = false := fun j => hO6'.frozenAt j
         obtain ⟨a7, c7, e7, hj1, hj2, h7a⟩ := hO6.rd
         clear hj1 hj2
         obtain ⟨b7, o7, ea7, h7⟩ : ∃ b o, a7 = some ⟨b, o, none⟩ /\ ∀ j, j < (seqN ys xa xb xc i ++ List.replicate (m - i) sq0).length -> w6.cell? ⟨b, o + j * 3, none⟩ = some (.int .i64 ((seqN ys xa xb xc i ++ List.replicate (m - i) sq0).getD j sq0).1) /\ w6.cell? ⟨b, o + j * 3 + 1, none⟩ = some (.int .i64 ((seqN ys xa xb xc i ++ List.replicate (m - i) sq0).getD j sq0).2.1) /\ w6.cell? ⟨b, o + j * 3 + 2, none⟩ = some (.int .i64 ((seqN ys xa xb xc i ++ List.replicate (m - i) sq0).getD j sq0).2.2) := by
          rcases h7a with h | h
          ·rw [h] at hl7; simp at hl7; omega
          ·exact h
         clear h7a
         rw [ea7] at e7
         clear ea7
         simp only [Value.slice.injEq, Option.some.injEq, Addr.mk.injEq, and_true] at e7
         obtain ⟨⟨rfl, rfl⟩, hjunk⟩ := e7
         clear hjunk
         obtain ⟨k0, k1, k2⟩ := h7 i (by omega)
         rw [Nat.zero_add] at k0 k1 k2
         have g0 := hfz (i * 3)
         have g1 := hfz (i * 3 + 1)
         have g2 := hfz (i * 3 + 2)
         obtain ⟨y0, hy0⟩ : ∃ y0, Hid ((seqAt ys xa xb xc i).1 = y0) := ⟨_, rfl⟩
         obtain ⟨y1, hy1⟩ : ∃ y1, Hid ((seqAt ys xa xb xc i).2.1 = y1) := ⟨_, rfl⟩
         obtain ⟨y2, hy2⟩ : ∃ y2, Hid ((seqAt ys xa xb xc i).2.2 = y2) := ⟨_, rfl⟩
         rw [hy0.out, hy1.out, hy2.out] at M6 ⊢
         have HM6 : Hid (Sm n0 w (((w6.setCell ⟨Gb, i * 3, none⟩ (.int .i64 y0)).setCell ⟨Gb, i * 3 + 1, none⟩ (.int .i64 y1)).setCell ⟨Gb, i * 3 + 2, none⟩ (.int .i64 y2)) g rb Gb B6 m rvr ys xa xb xc (some l4) V (i + 1)) := M6
         obtain ⟨z0, hz0⟩ : ∃ z0, Hid (((seqN ys xa xb xc i ++ List.replicate (m - i) sq0).getD i sq0).1 = z0) := ⟨_, rfl⟩
         obtain ⟨z1, hz1⟩ : ∃ z1, Hid (((seqN ys xa xb xc i ++ List.replicate (m - i) sq0).getD i sq0).2.1 = z1) := ⟨_, rfl⟩
         obtain ⟨z2, hz2⟩ : ∃ z2, Hid (((seqN ys xa xb xc i ++ List.replicate (m - i) sq0).getD i sq0).2.2 = z2) := ⟨_, rfl⟩
         rw [hz0.out] at k0
         rw [hz1.out] at k1
         rw [hz2.out] at k2
         have hii : (i : Int) < (m : Int) := by omega
         have hii0 : (0 : Int) <= (i : Int) := by omega
         clear hleb hleb2 hq hmz hn4b hm32
         have HTH : Hid (w6.there Gb (i * 3) 3) := fun j hj => by
          match j, hj with
          | 0, _ => exact ⟨by rw [Nat.add_zero, k0]; rfl, hfz _⟩
          | 1, _ => exact ⟨by rw [k1]; rfl, hfz _⟩
          | 2, _ => exact ⟨by rw [k2]; rfl, hfz _⟩
         have HIN : Hid ((Tryz.prog.info? 55).map (·.size) = some 3) := by show _ = _; kernel_rfl
         clear M6 hO6 hO6' hfz h7 hl7 hs6 hr6 ht6 M d0 d1 d2 HTH HIN
         go_wp2_with fail
         go_roundw
         case rel => exact ⟨i + 1, by omega, by go_num, HM6⟩
         case measure => simp [intOf]; omega
        ·obtain rfl : i = m := by omega
         go_wp2_with fail
         refine (zhy9 rb rvr ys _ wr M.out.rr).mono ?_
         rintro e w6 ⟨rfl, ht6⟩
         have S6 : Hid (SoX n0 w6 g (askS (some l4) (stN ys xa xb xc i).2)) := M.out.so.tch ht6 (fun e => by have := M.out.gl; have := M.out.rl; omega) (fun k e => by have := M.out.rl; have := M.out.wn; omega)
         have O6 : Hid (OwnsS w6 (.slice (some ⟨Gb, 0, none⟩) i i) (seqN ys xa xb xc i)) := by
          have h1 := M.out.own
          rw [Nat.sub_self, List.replicate_zero, List.append_nil] at h1
          exact h1.tch ht6 (fun j hj => by have := M.out.rG; simp only [Value.ownBlock, Option.some.injEq] at hj; omega)
         have T6 : Hid (Tch (fun k => k = g) w w6) := M.out.tch.trans ht6 (fun j hj e => by have := M.out.rl; omega)
         have NG : Hid (w.heap.size <= Gb /\ Gb ≠ g) := ⟨by have := M.out.rG; have := M.out.rl; omega, by have := M.out.rG; have := M.out.rl; have := M.out.gl; omega⟩
         clear ht6 M
         go_wp2_with fail
         refine (zak9 n0 g _ _ w6 S6.out).mono ?_
         rintro e w7 ⟨rfl, hs7, ht7⟩
         rw [zjb9] at hs7
         have S7 : Hid (SoX n0 w7 g R.2) := by rw [HR.out]; exact hs7
         have O7 : Hid (OwnsS w7 (.slice (some ⟨Gb, 0, none⟩) i i) R.1) := by rw [HR.out]; exact O6.out.tch ht7 (fun j hj e => by simp only [Value.ownBlock, Option.some.injEq] at hj; have := NG.out.2; omega)
         have T7 : Hid (Tch (fun k => k = g) w w7) := T6.out.trans ht7 (fun _ _ e => e)
         clear hs7 ht7 S6 O6 T6
         go_wp2_with fail
         go_ret
         exact ⟨.slice (some ⟨Gb, 0, none⟩) i i, rfl, O7.out.rd, fun k hk => by simp only [Value.ownBlock, Option.some.injEq] at hk; have := NG.out.1; omega, S7.out, T7.out⟩
 ·have hleb : decide ((m : Int) <= (n4 : Int)) = false := by rw [decide_eq_false_iff_not]; exact hle
  have hleb2 : decide (m <= n4) = false := by rw [decide_eq_false_iff_not]; omega
  rw [if_neg (fun e => hle e.1)]
  clear hn4
  go_enter Tryz.func72, Tryz.ntmps72
  go_wp2_with fail
  refine HN2.out.mono ?_
  clear HN2
  rintro e w1 ⟨rfl, hs1, ht1⟩
  have S1 : Hid (SoX n0 w1 g σ1) := hs1
  have T1 : Hid (Tch (fun k => k = g) w w1) := ht1
  clear hs1 ht1
  go_wp2_with fail
  refine (zak9 n0 g σ1 false w1 S1.out).mono ?_
  rintro e w2 ⟨rfl, hs2, ht2⟩
  have S2 : Hid (SoX n0 w2 g none) := hs2
  have T2 : Hid (Tch (fun k => k = g) w w2) := T1.out.trans ht2 (fun _ _ e => e)
  clear hs2 ht2 S1 T1
  simp only [askS]
  go_wp2_with fail
  go_ret
  exact SPost.nil S2.out T2.out
end Go.Proofs.YtobenjkacpipeaaGreat
