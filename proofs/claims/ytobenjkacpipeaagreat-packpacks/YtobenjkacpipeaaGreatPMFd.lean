import Derived.Test.YtobenjkacpipeaaGreatPE64
import Derived.Laws.Tables
set_option maxRecDepth 100000
set_option linter.unusedVariables false
set_option linter.unusedSimpArgs false
set_option maxHeartbeats 8000000
namespace Go.Proofs.YtobenjkacpipeaaGreat
open Go.RowKit Pl
theorem tch1 (w : World) (b o : Nat) (v : Value) : Tch (fun k => k = b) w (w.setCell ⟨b, o, none⟩ v) := Tch.setCell (Tch.refl (fun k => k = b) w) (p := ⟨b, o, none⟩) (fun _ => rfl) v
def fcs (dv : Value) (win lk : Int) (h : Nat -> Int) (av : Value) : List Value := [dv, .int .i64 win, .int .i64 lk] ++ (List.range 4096).map (fun i => .int .i64 (h i)) ++ [av]
theorem zqq9 (dv : Value) (win lk : Int) (h : Nat -> Int) (av : Value) : (fcs dv win lk h av).length = 4100 := by simp [fcs]
theorem fcs_0 (dv : Value) (win lk : Int) (h : Nat -> Int) (av : Value) : (fcs dv win lk h av)[0]? = some dv := rfl
theorem fcs_1 (dv : Value) (win lk : Int) (h : Nat -> Int) (av : Value) : (fcs dv win lk h av)[1]? = some (.int .i64 win) := rfl
theorem fcs_2 (dv : Value) (win lk : Int) (h : Nat -> Int) (av : Value) : (fcs dv win lk h av)[2]? = some (.int .i64 lk) := rfl
theorem fcs_h (dv : Value) (win lk : Int) (h : Nat -> Int) (av : Value) (s : Nat) (hs : s < 4096) : (fcs dv win lk h av)[3 + s]? = some (.int .i64 (h s)) := by
 unfold fcs
 rw [List.getElem?_append_left (by simp; omega), List.getElem?_append_right (by simp)]
 simp [hs]
theorem fcs_4 (dv : Value) (win lk : Int) (h : Nat -> Int) (av : Value) : (fcs dv win lk h av)[4099]? = some av := by
 unfold fcs
 rw [List.getElem?_append_right (by simp)]
 simp
theorem zwj9 (dv : Value) (win lk : Int) (h : Nat -> Int) (av : Value) (x : Int) : (fcs dv win lk h av).set 2 (.int .i64 x) = fcs dv win x h av := rfl
def updh (h : Nat -> Int) (s : Nat) (x : Int) (j : Nat) : Int := if j = s then x else h j
theorem zxq9 (dv : Value) (win lk : Int) (h : Nat -> Int) (av : Value) (s : Nat) (hs : s < 4096) (x : Int) : (fcs dv win lk h av).set (3 + s) (.int .i64 x) = fcs dv win lk (updh h s x) av := by
 apply List.ext_getElem?
 intro j
 rw [List.getElem?_set]
 by_cases e : 3 + s = j
 ·subst e
  rw [if_pos rfl, if_pos (by rw [zqq9]; omega), fcs_h _ _ _ _ _ _ hs]
  simp [updh]
 ·rw [if_neg e]
  by_cases h3 : j < 3
  ·match j, h3 with
   | 0, _ => rw [fcs_0, fcs_0]
   | 1, _ => rw [fcs_1, fcs_1]
   | 2, _ => rw [fcs_2, fcs_2]
  ·by_cases h4 : j < 4099
   ·obtain ⟨t, rfl⟩ : ∃ t, j = 3 + t := ⟨j - 3, by omega⟩
    rw [fcs_h _ _ _ _ _ _ (by omega), fcs_h _ _ _ _ _ _ (by omega)]
    simp only [updh]
    rw [if_neg (by omega)]
   ·by_cases h5 : j = 4099
    ·subst h5; rw [fcs_4, fcs_4]
    ·rw [List.getElem?_eq_none (by rw [zqq9]; omega), List.getElem?_eq_none (by rw [zqq9]; omega)]
structure Fd (w : World) (F G n : Nat) (dv : Value) (win lk : Int) (h : Nat -> Int) (ad : List Int) : Prop where
 blk : w.heap[F]? = some (.cells (fcs dv win lk h (.slice (some ⟨G, 0, none⟩) n n)).toArray 110 (0, 0))
 own : Owns .i64 3 w (.slice (some ⟨G, 0, none⟩) n n) ad
 ne : F ≠ G
section
variable {w : World} {F G n : Nat} {dv : Value} {win lk : Int} {h : Nat -> Int} {ad : List Int}
theorem Fd.fz (H : Fd w F G n dv win lk h ad) (i : Nat) : w.frozen? ⟨F, i, none⟩ = false := frozen_of_row w F i _ _ H.blk
theorem Fd.at_ (H : Fd w F G n dv win lk h ad) (i : Nat) {v : Value} (hv : (fcs dv win lk h (.slice (some ⟨G, 0, none⟩) n n))[i]? = some v) : w.cell? ⟨F, i, none⟩ = some v := by
 rw [cell_of_row w F i _ _ (0, 0) H.blk]
 simpa using hv
theorem Fd.c0 (H : Fd w F G n dv win lk h ad) : w.cell? ⟨F, 0, none⟩ = some dv := H.at_ 0 (fcs_0 _ _ _ _ _)
theorem Fd.c1 (H : Fd w F G n dv win lk h ad) : w.cell? ⟨F, 1, none⟩ = some (.int .i64 win) := H.at_ 1 (fcs_1 _ _ _ _ _)
theorem Fd.c2 (H : Fd w F G n dv win lk h ad) : w.cell? ⟨F, 2, none⟩ = some (.int .i64 lk) := H.at_ 2 (fcs_2 _ _ _ _ _)
theorem Fd.ch (H : Fd w F G n dv win lk h ad) (s : Nat) (hs : s < 4096) : w.cell? ⟨F, 3 + s, none⟩ = some (.int .i64 (h s)) := H.at_ _ (fcs_h _ _ _ _ _ _ hs)
theorem Fd.c4 (H : Fd w F G n dv win lk h ad) : w.cell? ⟨F, 4099, none⟩ = some (.slice (some ⟨G, 0, none⟩) n n) := H.at_ 4099 (fcs_4 _ _ _ _ _)
theorem Fd.lt (H : Fd w F G n dv win lk h ad) : F < w.heap.size := (Array.getElem?_eq_some_iff.1 H.blk).1
theorem Fd.ltG (H : Fd w F G n dv win lk h ad) : G < w.heap.size := H.own.lt G rfl
theorem Fd.tch {S : Nat -> Prop} {w' : World} (H : Fd w F G n dv win lk h ad) (ht : Tch S w w') (hF : ¬ S F) (hG : ¬ S G) : Fd w' F G n dv win lk h ad :=
 ⟨by rw [ht.block F H.lt hF]; exact H.blk, H.own.tch ht (fun j e => by simp only [Value.ownBlock, Option.some.injEq] at e; rw [<- e]; exact hG), H.ne⟩
theorem Fd.below {w' : World} (H : Fd w F G n dv win lk h ad) (hb : Below w.heap.size w w') : Fd w' F G n dv win lk h ad := H.tch (S := fun _ => False) (Tch.of_below hb) (fun e => e) (fun e => e)
theorem Fd.setL (H : Fd w F G n dv win lk h ad) (x : Int) : Fd (w.setCell ⟨F, 2, none⟩ (.int .i64 x)) F G n dv win x h ad := by
 refine ⟨?_, H.own.tch (S := fun k => k = F) (tch1 w F 2 _) (fun j e => ?_), H.ne⟩
 ·rw [heap_setCell_same w F 2 _ _ (.int .i64 x) H.blk, <- zwj9 dv win lk h _ x]
  simp
 ·simp only [Value.ownBlock, Option.some.injEq] at e
  have := H.ne
  omega
theorem Fd.setH (H : Fd w F G n dv win lk h ad) (s : Nat) (hs : s < 4096) (x : Int) : Fd (w.setCell ⟨F, 3 + s, none⟩ (.int .i64 x)) F G n dv win lk (updh h s x) ad := by
 refine ⟨?_, H.own.tch (S := fun k => k = F) (tch1 w F (3 + s) _) (fun j e => ?_), H.ne⟩
 ·rw [heap_setCell_same w F (3 + s) _ _ (.int .i64 x) H.blk, <- zxq9 dv win lk h _ s hs x]
  simp
 ·simp only [Value.ownBlock, Option.some.injEq] at e
  have := H.ne
  omega
theorem Fd.setA (H : Fd w F G n dv win lk h ad) (i : Nat) (x : Int) : Fd (w.setCell ⟨G, i, none⟩ (.int .i64 x)) F G n dv win lk h (ad.set i x) := by
 refine ⟨?_, H.own.set i x, H.ne⟩
 have ht : Tch (fun k => k = G) w (w.setCell ⟨G, i, none⟩ (.int .i64 x)) := tch1 w G i _
 rw [ht.block F H.lt (fun e => H.ne e)]
 exact H.blk
end
set_option maxRecDepth 1000000 in
theorem zjy9 (a : Option Addr) (n c : Nat) (win : Int) (g m : Nat) : Tryz.prog.built 110 [(0, .slice a n c), (1, .int .i64 win), (4, .slice (some ⟨g, 0, none⟩) m m)] = some (fcs (.slice a n c) win 0 (fun _ => 0) (.slice (some ⟨g, 0, none⟩) m m)).toArray := by kernel_rfl
theorem zhq9 (w : World) {ops : Array Oper} {rest : List Oper} {o : Oper} {a : Act} {Q : Exit -> Act -> World -> Prop} (hgd : o.guard = none) (x y z : Operand)
  (ho : o.op = .build 110 #[(0, x), (1, y), (4, z)]) (da : Option Addr) (n c : Nat) (win : Int) (g m : Nat) (hx : a.eval x = .slice da n c) (hy : a.eval y = .int .i64 win) (hz : a.eval z = .slice (some ⟨g, 0, none⟩) m m)
  (h : wpList Tryz.prog ops Q rest (a.put o.dst (.agg (fcs (.slice da n c) win 0 (fun _ => 0) (.slice (some ⟨g, 0, none⟩) m m)).toArray)) w) : wpList Tryz.prog ops Q (o :: rest) a w := by
 refine wpList_plain hgd fun K hK => ?_
 have hb := run_build (P := Tryz.prog) w 110 #[(0, .slice da n c), (1, .int .i64 win), (4, .slice (some ⟨g, 0, none⟩) m m)] _ (zjy9 da n c win g m)
 unfold Oper.wp execOp
 simp only [ho, Sem.run_bind, List.map_toArray, List.map_cons, List.map_nil, hx, hy, hz, hb, Result.andThen_ok]
 exact hK _ _ h
set_option maxRecDepth 100000 in
theorem zdu9 (da : Option Addr) (n c : Nat) (win : Int) (w : World) (hn : n <= 65536) :
  Calls Tryz.prog 50 #[.slice da n c, .int .i64 win] w fun e w' => ∃ F G, e = .returned (.pointer (some ⟨F, 0, none⟩)) /\ Fd w' F G n (.slice da n c) win 0 (fun _ => 0) (List.replicate n 0) /\ Below w.heap.size w w' /\ w.heap.size <= F /\ w.heap.size <= G := by
 obtain ⟨j0, hj, hy0, hy1, hy2⟩ := elem64.info
 go_enter Tryz.func50, Tryz.ntmps50
 go_wp2_with (at_make; refine wpList_make_full _ rfl (.tmp 8) (.tmp 8) 56 rfl 0 3 j0 _ 1 Tryz.underlying56 hj hy0 hy1 .i64 .i64 _ _ n rfl rfl rfl rfl (by rw [hy2]; omega) (by unfold maxLen; omega) (Nat.zero_le _) ?_)
 intro w2 ho2 hg2
 obtain ⟨g, hg⟩ : ∃ g, Hid (w.heap.size = g) := ⟨_, rfl⟩
 have OG : Hid (Owns .i64 3 w2 (.slice (some ⟨g, 0, none⟩) n n) (List.replicate n 0)) := by
  show w2.ownsRow _ _ _ _ _ _
  rw [toList_madeCells_one, hg.out] at ho2
  simpa using ho2
 have B2 : Hid (Below w.heap.size w w2) := (Below.refl _ _).grown hg2 (Nat.le_refl _) (fun k e => by cases e)
 rw [hg.out]
 clear ho2 hg2 hj hy0 hy1 hy2
 refine zhq9 _ rfl (.tmp 5) (.tmp 6) (.tmp 9) rfl da n c win g n rfl rfl rfl ?_
 obtain ⟨cs, hcs⟩ : ∃ cs, Hid (fcs (.slice da n c) win 0 (fun _ => 0) (.slice (some ⟨g, 0, none⟩) n n) = cs) := ⟨_, rfl⟩
 rw [hcs.out]
 go_wp2_with fail
 go_ret
 refine ⟨w2.heap.size, g, rfl, ⟨?_, (OG.out.below ((Below.refl _ _).alloc (Nat.le_refl _) _)), ?_⟩, B2.out.trans (((Below.refl _ _).alloc (Nat.le_refl _) _).mono B2.out.size), B2.out.size, by rw [hg.out]; exact Nat.le_refl _⟩
 ·rw [hcs.out]; exact heap_alloc_new w2 _
 ·have := OG.out.lt g rfl
  omega
def slI (x0 x1 x2 x3 : Int) : Int :=
 bits BinOp.or IntKind.u32 (bits BinOp.or IntKind.u32 (bits BinOp.or IntKind.u32 x0 (x1 * 256)) (x2 * 65536)) (x3 * 16777216) * 2654435761 % 4294967296 / 1048576
theorem slI_bd (x0 x1 x2 x3 : Int) : 0 <= slI x0 x1 x2 x3 /\ slI x0 x1 x2 x3 < 4096 := by
 unfold slI
 generalize bits BinOp.or IntKind.u32 (bits BinOp.or IntKind.u32 (bits BinOp.or IntKind.u32 x0 (x1 * 256)) (x2 * 65536)) (x3 * 16777216) * 2654435761 = y
 omega
def sl (ds : List Int) (p : Nat) : Nat := (slI (ds.getD p 0) (ds.getD (p + 1) 0) (ds.getD (p + 2) 0) (ds.getD (p + 3) 0)).toNat
theorem sl_lt (ds : List Int) (p : Nat) : sl ds p < 4096 := by
 have := slI_bd (ds.getD p 0) (ds.getD (p + 1) 0) (ds.getD (p + 2) 0) (ds.getD (p + 3) 0)
 unfold sl
 omega
set_option maxRecDepth 100000 in
theorem zvl9 (F G n b o c at_ : Nat) (win lk : Int) (h : Nat -> Int) (ad : List Int) (x0 x1 x2 x3 : Int) (w : World) (H : Fd w F G n (.slice (some ⟨b, o, none⟩) n c) win lk h ad) (hn : n <= 65536) (hc : n <= c) (hc2 : c <= 9223372036854775807) (ha : at_ + 4 <= n)
  (c0 : w.cell? ⟨b, o + at_, none⟩ = some (.int .u8 x0)) (c1 : w.cell? ⟨b, o + at_ + 1, none⟩ = some (.int .u8 x1)) (c2 : w.cell? ⟨b, o + at_ + 2, none⟩ = some (.int .u8 x2)) (c3 : w.cell? ⟨b, o + at_ + 3, none⟩ = some (.int .u8 x3))
  (b0 : 0 <= x0 /\ x0 <= 255) (b1 : 0 <= x1 /\ x1 <= 255) (b2 : 0 <= x2 /\ x2 <= 255) (b3 : 0 <= x3 /\ x3 <= 255) :
  Calls Tryz.prog 81 #[.pointer (some ⟨F, 0, none⟩), .int .i64 at_] w fun e w' => e = .returned (.int .i64 (slI x0 x1 x2 x3)) /\ ∃ m, w' = w.drewN m := by
 have d0 := H.c0
 have HH : Hid (Fd w F G n (.slice (some ⟨b, o, none⟩) n c) win lk h ad) := H
 clear H
 have hac : at_ < c := by omega
 go_enter Tryz.func81, Tryz.ntmps81
 go_wp2_with fail
 go_quiet (fail)
 go_wp2_with fail
 go_ret
 exact ⟨rfl, _, rfl⟩
def Dt (w : World) (b o n : Nat) (ds : List Int) : Prop := n = ds.length /\ By ds /\ ∀ i, i < n -> w.cell? ⟨b, o + i, none⟩ = some (.int .u8 (ds.getD i 0))
theorem Dt.below {w w' : World} {b o n : Nat} {ds : List Int} (h : Dt w b o n ds) (hb : Below w.heap.size w w') : Dt w' b o n ds :=
 ⟨h.1, h.2.1, fun i hi => by have h0 := h.2.2 i hi; rw [hb.cell (p := ⟨b, o + i, none⟩) (World.block_lt_of_cell? w ⟨b, o + i, none⟩ h0), h0]⟩
theorem Dt.tch {S : Nat -> Prop} {w w' : World} {b o n : Nat} {ds : List Int} (h : Dt w b o n ds) (hb : Tch S w w') (hn : ¬ S b) : Dt w' b o n ds :=
 ⟨h.1, h.2.1, fun i hi => by have h0 := h.2.2 i hi; rw [hb.cell (p := ⟨b, o + i, none⟩) (World.block_lt_of_cell? w ⟨b, o + i, none⟩ h0) hn, h0]⟩
theorem zqv9 (F G n b o c at_ : Nat) (win lk : Int) (h : Nat -> Int) (ad ds : List Int) (w : World) (H : Fd w F G n (.slice (some ⟨b, o, none⟩) n c) win lk h ad) (D : Dt w b o n ds) (hn : n <= 65536) (hc : n <= c) (hc2 : c <= 9223372036854775807) (ha : at_ + 4 <= n) :
  Calls Tryz.prog 81 #[.pointer (some ⟨F, 0, none⟩), .int .i64 at_] w fun e w' => e = .returned (.int .i64 (sl ds at_)) /\ ∃ m, w' = w.drewN m := by
 have e : ((sl ds at_ : Nat) : Int) = slI (ds.getD at_ 0) (ds.getD (at_ + 1) 0) (ds.getD (at_ + 2) 0) (ds.getD (at_ + 3) 0) := by
  have := slI_bd (ds.getD at_ 0) (ds.getD (at_ + 1) 0) (ds.getD (at_ + 2) 0) (ds.getD (at_ + 3) 0)
  unfold sl
  omega
 rw [e]
 exact zvl9 F G n b o c at_ win lk h ad _ _ _ _ w H hn hc hc2 ha (D.2.2 _ (by omega)) (D.2.2 (at_ + 1) (by omega)) (D.2.2 (at_ + 2) (by omega)) (D.2.2 (at_ + 3) (by omega)) (D.2.1 _) (D.2.1 _) (D.2.1 _) (D.2.1 _)
def rn (ds : List Int) (p q : Nat) : Nat -> Nat
 | 0 => 0
 | m + 1 => if rn ds p q m = m /\ ds.getD (p + m) 0 = ds.getD (q + m) 0 then m + 1 else rn ds p q m
theorem rn_le (ds : List Int) (p q : Nat) : ∀ m, rn ds p q m <= m
 | 0 => Nat.le_refl _
 | m + 1 => by
  have := rn_le ds p q m
  simp only [rn]
  split <;> omega
theorem rn_eq (ds : List Int) (p q : Nat) : ∀ m j, j < rn ds p q m -> ds.getD (p + j) 0 = ds.getD (q + j) 0
 | 0, j, h => by simp [rn] at h
 | m + 1, j, h => by
  simp only [rn] at h
  split at h
  ·rename_i h1
   by_cases e : j = m
   ·rw [e]; exact h1.2
   ·exact rn_eq ds p q m j (by rw [h1.1]; omega)
  ·exact rn_eq ds p q m j h
theorem rn_ne (ds : List Int) (p q : Nat) : ∀ m, rn ds p q m < m -> ds.getD (p + rn ds p q m) 0 ≠ ds.getD (q + rn ds p q m) 0
 | 0, h => by omega
 | m + 1, h => by
  simp only [rn] at h ⊢
  split at h
  ·omega
  ·rename_i h1
   rw [if_neg h1]
   by_cases e : rn ds p q m = m
   ·rw [e]
    exact fun h2 => h1 ⟨e, h2⟩
   ·exact rn_ne ds p q m (by have := rn_le ds p q m; omega)
theorem rn_of (ds : List Int) (p q m n : Nat) (hn : n <= m) (h1 : ∀ j, j < n -> ds.getD (p + j) 0 = ds.getD (q + j) 0) (h2 : n < m -> ds.getD (p + n) 0 ≠ ds.getD (q + n) 0) : rn ds p q m = n := by
 have hl := rn_le ds p q m
 rcases Nat.lt_trichotomy (rn ds p q m) n with e | e | e
 ·exact absurd (h1 _ e) (rn_ne ds p q m (by omega))
 ·exact e
 ·exact absurd (rn_eq ds p q m n e) (h2 (by omega))
theorem zzw9 (ds : List Int) (p q m : Nat) : rn ds p q m = rn ds q p m :=
 rn_of ds p q m _ (rn_le _ _ _ _) (fun j hj => (rn_eq ds q p m j hj).symm) (fun h e => rn_ne ds q p m h e.symm)
def ml (ds : List Int) (i : Nat) : Nat := min 259 (ds.length - i)
def bst (ds : List Int) (i : Nat) : Nat -> Nat × Nat
 | 0 => (0, 0)
 | d + 1 => if 4 <= rn ds i (i - (d + 1)) (ml ds i) /\ (bst ds i d).1 < rn ds i (i - (d + 1)) (ml ds i) then (rn ds i (i - (d + 1)) (ml ds i), d + 1) else bst ds i d
theorem bst_le (ds : List Int) (i : Nat) : ∀ d, (bst ds i d).1 <= ml ds i
 | 0 => Nat.zero_le _
 | d + 1 => by
  simp only [bst]
  split
  ·exact rn_le _ _ _ _
  ·exact bst_le ds i d
theorem zabd9 (ds : List Int) (i : Nat) {d e : Nat} (h : d <= e) : (bst ds i d).1 <= (bst ds i e).1 := by
 induction e with
 | zero => obtain rfl : d = 0 := by omega
           exact Nat.le_refl _
 | succ e ih =>
  by_cases c : d = e + 1
  ·rw [c]; exact Nat.le_refl _
  ·have := ih (by omega)
   simp only [bst]
   split
   ·rename_i h1; exact Nat.le_trans this (Nat.le_of_lt h1.2)
   ·exact this
theorem zhc9 (ds : List Int) (i : Nat) {d e : Nat} (h : d <= e) (hs : ∀ t, d < t -> t <= e -> rn ds i (i - t) (ml ds i) < 4 ∨ rn ds i (i - t) (ml ds i) <= (bst ds i d).1) : bst ds i e = bst ds i d := by
 induction e with
 | zero => obtain rfl : d = 0 := by omega
           rfl
 | succ e ih =>
  by_cases c : d = e + 1
  ·rw [c]
  ·have h1 := ih (by omega) (fun t h1 h2 => hs t h1 (by omega))
   simp only [bst]
   rw [h1, if_neg]
   intro h2
   rcases hs (e + 1) (by omega) (Nat.le_refl _) with h3 | h3 <;> omega
def best (ds : List Int) (win i : Nat) : Nat × Nat := bst ds i (min win i)
def pv (ds : List Int) (s : Nat) : Nat -> Nat
 | 0 => 0
 | k + 1 => if sl ds k = s then k + 1 else pv ds s k
theorem pv_le (ds : List Int) (s : Nat) : ∀ k, pv ds s k <= k
 | 0 => Nat.le_refl _
 | k + 1 => by
  have := pv_le ds s k
  simp only [pv]
  split <;> omega
theorem pv_sl (ds : List Int) (s : Nat) : ∀ k, 0 < pv ds s k -> sl ds (pv ds s k - 1) = s
 | 0, h => by simp [pv] at h
 | k + 1, h => by
  simp only [pv] at h ⊢
  split at h
  ·rename_i h1; rw [if_pos h1]; exact h1
  ·rename_i h1; rw [if_neg h1]; exact pv_sl ds s k h
theorem zol9 (ds : List Int) (s : Nat) : ∀ k q, pv ds s k <= q -> q < k -> sl ds q ≠ s
 | 0, q, _, h => by omega
 | k + 1, q, h, h2 => by
  simp only [pv] at h
  split at h
  ·omega
  ·rename_i h1
   by_cases e : q = k
   ·rw [e]; exact h1
   ·exact zol9 ds s k q h (by omega)
theorem zvb9 (ds : List Int) (i q m : Nat) (h : sl ds q ≠ sl ds i) : rn ds i q m < 4 := by
 rcases Nat.lt_or_ge (rn ds i q m) 4 with e | e
 ·exact e
 ·exfalso
  apply h
  have h0 := rn_eq ds i q m 0 (by omega)
  have h1 := rn_eq ds i q m 1 (by omega)
  have h2 := rn_eq ds i q m 2 (by omega)
  have h3 := rn_eq ds i q m 3 (by omega)
  rw [Nat.add_zero, Nat.add_zero] at h0
  unfold sl
  rw [h0, h1, h2, h3]
theorem zrf9 (ds : List Int) (win i k : Nat) (hk : k < i) (hw : i - k <= win) : bst ds i (min win (i - pv ds (sl ds i) k)) = bst ds i (i - k) := by
 have hp := pv_le ds (sl ds i) k
 refine zhc9 ds i (by omega) (fun t h1 h2 => .inl (zvb9 ds i (i - t) _ ?_))
 exact zol9 ds (sl ds i) k (i - t) (by omega) (by omega)
theorem zoi9 (ds : List Int) (win i : Nat) : bst ds i (min win (i - pv ds (sl ds i) i)) = (0, 0) := by
 have hp := pv_le ds (sl ds i) i
 have := zhc9 ds i (d := 0) (e := min win (i - pv ds (sl ds i) i)) (Nat.zero_le _) (fun t h1 h2 => .inl (zvb9 ds i (i - t) _ (zol9 ds (sl ds i) i (i - t) (by omega) (by omega))))
 rw [this]
 rfl
set_option maxRecDepth 100000 in
theorem zrz9 (F G n b o c p q m : Nat) (win lk : Int) (h : Nat -> Int) (ad ds : List Int) (w : World) (H : Fd w F G n (.slice (some ⟨b, o, none⟩) n c) win lk h ad) (D : Dt w b o n ds) (hn : n <= 65536) (hp : p + m <= n) (hq : q + m <= n) :
  Calls Tryz.prog 82 #[.pointer (some ⟨F, 0, none⟩), .int .i64 p, .int .i64 q, .int .i64 m] w fun e w' => e = .returned (.int .i64 (rn ds p q m)) /\ Below w.heap.size w w' := by
 have HF : Hid (Fd w F G n (.slice (some ⟨b, o, none⟩) n c) win lk h ad) := H
 have HD : Hid (Dt w b o n ds) := D
 clear H D
 obtain ⟨R, hR⟩ : ∃ R, Hid (rn ds p q m = R) := ⟨_, rfl⟩
 rw [hR.out]
 go_enter Tryz.func82, Tryz.ntmps82
 go_wp2_with fail
 go_loopw [9] (fun i wr => ∃ k : Nat, k <= m /\ i = .int .i64 k /\ Hid (∀ j, j < k -> ds.getD (p + j) 0 = ds.getD (q + j) 0) /\ Hid (Below w.heap.size w wr)) (fun i _ => m - (intOf i).toNat)
 case atStart => exact ⟨0, Nat.zero_le _, rfl, fun j hj => by omega, Below.refl _ _⟩
 case round =>
  obtain ⟨k, hk, rfl, HE, HB⟩ := hrel
  by_cases hlt : k < m
  ·have g1 : decide ((k : Int) < (m : Int)) = true := by rw [decide_eq_true_eq]; omega
   have d0 := (HF.out.below HB.out).c0
   have hD := HD.out.below HB.out
   obtain ⟨x, hx⟩ : ∃ x, Hid (ds.getD (p + k) 0 = x) := ⟨_, rfl⟩
   obtain ⟨y, hy⟩ : ∃ y, Hid (ds.getD (q + k) 0 = y) := ⟨_, rfl⟩
   have cx : wr.cell? ⟨b, o + (p + k), none⟩ = some (.int .u8 x) := by rw [hD.2.2 (p + k) (by omega), hx.out]
   have cy : wr.cell? ⟨b, o + (q + k), none⟩ = some (.int .u8 y) := by rw [hD.2.2 (q + k) (by omega), hy.out]
   clear hD
   by_cases hxy : x = y
   ·have g2 : (x == y) = true := by simp [hxy]
    have HE2 : Hid (∀ j, j < k + 1 -> ds.getD (p + j) 0 = ds.getD (q + j) 0) := fun j hj => by
     by_cases e : j = k
     ·rw [e, hx.out, hy.out]; exact hxy
     ·exact HE.out j (by omega)
    clear hxy
    go_wp2_with fail
    go_quiet (fail)
    go_wp2_with fail
    go_roundw
    case rel => exact ⟨k + 1, by omega, by go_num, HE2, HB.out.trans (Below.of_drewN _ _ _)⟩
    case measure => simp [intOf]; omega
   ·have g2 : (x == y) = false := by simp [hxy]
    have HR : Hid (R = k) := by
     show R = k
     rw [<- hR.out]
     exact rn_of ds p q m k hk HE.out (fun _ => by rw [hx.out, hy.out]; exact hxy)
    clear hxy
    go_wp2_with fail
    go_quiet (fail)
    go_wp2_with fail
    go_ret
    exact ⟨by rw [HR.out]; rfl, HB.out.trans (Below.of_drewN _ _ _)⟩
  ·obtain rfl : k = m := by omega
   have g1 : decide ((k : Int) < (k : Int)) = false := by simp
   have HR : Hid (R = k) := by
    show R = k
    rw [<- hR.out]
    exact rn_of ds p q k k hk HE.out (fun h => by omega)
   go_wp2_with fail
   go_quiet (fail)
   go_wp2_with fail
   go_ret
   exact ⟨by rw [HR.out]; rfl, HB.out.trans (Below.of_drewN _ _ _)⟩
def Lk (ds : List Int) (k : Nat) (h : Nat -> Int) (ad : List Int) : Prop := (∀ s, s < 4096 -> h s = (pv ds s k : Int)) /\ ∀ p, p < k -> ad.getD p 0 = (pv ds (sl ds p) p : Int)
theorem Lk.step {ds : List Int} {k : Nat} {h : Nat -> Int} {ad : List Int} (H : Lk ds k h ad) (hk : k < ad.length) : Lk ds (k + 1) (updh h (sl ds k) ((k : Int) + 1)) (ad.set k (h (sl ds k))) := by
 refine ⟨fun s hs => ?_, fun p hp => ?_⟩
 ·simp only [updh, pv]
  by_cases e : s = sl ds k
  ·rw [if_pos e, if_pos e.symm]; push_cast; rfl
  ·rw [if_neg e, if_neg (fun e2 => e e2.symm)]; exact H.1 s hs
 ·rw [List.getD_eq_getElem?_getD, List.getElem?_set]
  by_cases e : k = p
  ·subst e
   rw [if_pos rfl, if_pos hk]
   exact H.1 _ (sl_lt _ _)
  ·rw [if_neg e, <- List.getD_eq_getElem?_getD]
   exact H.2 p (by omega)
set_option maxRecDepth 100000 in
theorem zvz9 (F G n b o c at_ k0 : Nat) (win : Int) (h : Nat -> Int) (ad ds : List Int) (w : World) (H : Fd w F G n (.slice (some ⟨b, o, none⟩) n c) win k0 h ad) (D : Dt w b o n ds) (L : Lk ds k0 h ad) (hb : b ≠ F /\ b ≠ G) (had : ad.length = n) (hn : n <= 65536) (hc : n <= c) (hc2 : c <= 9223372036854775807) (ha : at_ + 4 <= n) (h0 : k0 <= at_) :
  Calls Tryz.prog 80 #[.pointer (some ⟨F, 0, none⟩), .int .i64 at_] w fun e w' => (∃ v, e = .returned v) /\ (∃ h ad, Fd w' F G n (.slice (some ⟨b, o, none⟩) n c) win at_ h ad /\ Lk ds at_ h ad /\ ad.length = n) /\ Tch (fun j => j = F ∨ j = G) w w' := by
 have HF : Hid (Fd w F G n (.slice (some ⟨b, o, none⟩) n c) win k0 h ad) := H
 have HD : Hid (Dt w b o n ds) := D
 have HL : Hid (Lk ds k0 h ad) := L
 have HA : Hid (ad.length = n) := had
 have HBB : Hid (b ≠ F /\ b ≠ G) := hb
 clear H D L hb had
 go_enter Tryz.func80, Tryz.ntmps80
 go_wp2_with fail
 go_loopw [4] (fun s wr => ∃ (k : Nat) (h : Nat -> Int) (ad : List Int), k <= at_ /\ Hid (Fd wr F G n (.slice (some ⟨b, o, none⟩) n c) win k h ad) /\ Hid (Lk ds k h ad) /\ Hid (ad.length = n) /\ Hid (Tch (fun j => j = F ∨ j = G) w wr)) (fun _ wr => at_ - (intOf ((wr.cell? ⟨F, 2, none⟩).getD undef)).toNat)
 case atStart => exact ⟨k0, h, ad, h0, HF, HL, HA, Tch.refl _ _⟩
 case round =>
  clear HF HL HA
  obtain ⟨k, h, ad, hk, HF, HL, HA, HT⟩ := hrel
  have c2 := HF.out.c2
  have HC2 : Hid (wr.cell? ⟨F, 2, none⟩ = some (.int .i64 (k : Int))) := c2
  by_cases hlt : k < at_
  ·obtain ⟨s, hs⟩ : ∃ s, Hid (sl ds k = s) := ⟨_, rfl⟩
   have hs4 : s < 4096 := by rw [<- hs.out]; exact sl_lt _ _
   have HSL : Hid (Calls Tryz.prog 81 #[.pointer (some ⟨F, 0, none⟩), .int .i64 k] wr fun e w' => e = .returned (.int .i64 s) /\ ∃ m, w' = wr.drewN m) := by
    have := zqv9 F G n b o c k win k h ad ds wr HF.out (HD.out.tch HT.out (fun e => by have := HBB.out; rcases e with e | e <;> simp [e] at this)) hn hc hc2 (by omega)
    rw [hs.out] at this
    exact this
   go_wp2_with fail
   refine HSL.out.mono ?_
   clear HSL
   rintro e w2 ⟨rfl, q2, hq2⟩
   have hb2 : Below wr.heap.size wr w2 := by rw [hq2]; exact Below.of_drewN _ _ _
   clear hq2
   have F2 : Hid (Fd w2 F G n (.slice (some ⟨b, o, none⟩) n c) win k h ad) := HF.out.below hb2
   have T2 : Hid (Tch (fun j => j = F ∨ j = G) w w2) := HT.out.trans (Tch.of_below (S := fun j => j = F ∨ j = G) hb2) (fun _ _ e => e)
   have e2 := F2.out.c2
   have e4 := F2.out.c4
   obtain ⟨x, hx⟩ : ∃ x, Hid (h s = x) := ⟨_, rfl⟩
   have eh := F2.out.ch s hs4
   rw [hx.out] at eh
   obtain ⟨_, _, e3, _, _, _, q3, f3⟩ := F2.out.own.shape (by rw [HA.out]; omega)
   rw [HA.out] at e3
   cases e3
   have ek := q3 k (by rw [HA.out]; omega)
   obtain ⟨y0, hy0⟩ : ∃ y0, ad.getD k 0 = y0 := ⟨_, rfl⟩
   rw [hy0] at ek
   have fk := f3 k
   have hkI : (k : Int) < (n : Int) := by omega
   have hsI : (s : Int) < 4096 := by omega
   clear hb2 q3 f3 hy0 c2 HF HT
   go_wp2_with fail
   go_region
   have F3 : Hid (Fd (w2.setCell ⟨G, k, none⟩ (.int .i64 x)).drew F G n (.slice (some ⟨b, o, none⟩) n c) win k h (ad.set k x)) := (F2.out.setA k x).below ((Below.refl _ _).drew)
   have T3 : Hid (Tch (fun j => j = F ∨ j = G) w (w2.setCell ⟨G, k, none⟩ (.int .i64 x)).drew) := (Tch.setCell T2.out (p := ⟨G, k, none⟩) (fun _ => .inr rfl) _).drew
   obtain ⟨w3, hw3⟩ : ∃ w3, Hid ((w2.setCell ⟨G, k, none⟩ (.int .i64 x)).drew = w3) := ⟨_, rfl⟩
   rw [hw3.out] at F3 T3 ⊢
   have r2 := F3.out.c2
   have rh := F3.out.ch s hs4
   have rf := F3.out.fz (3 + s)
   clear e2 e4 eh ek fk F2 T2
   go_wp2_with fail
   go_region
   have F4 : Hid (Fd (w3.setCell ⟨F, 3 + s, none⟩ (.int .i64 ((k : Int) + 1))).drew F G n (.slice (some ⟨b, o, none⟩) n c) win k (updh h s ((k : Int) + 1)) (ad.set k x)) := (F3.out.setH s hs4 _).below ((Below.refl _ _).drew)
   have T4 : Hid (Tch (fun j => j = F ∨ j = G) w (w3.setCell ⟨F, 3 + s, none⟩ (.int .i64 ((k : Int) + 1))).drew) := (Tch.setCell T3.out (p := ⟨F, 3 + s, none⟩) (fun _ => .inl rfl) _).drew
   obtain ⟨w4, hw4⟩ : ∃ w4, Hid ((w3.setCell ⟨F, 3 + s, none⟩ (.int .i64 ((k : Int) + 1))).drew = w4) := ⟨_, rfl⟩
   rw [hw4.out] at F4 T4 ⊢
   have s2 := F4.out.c2
   have sf := F4.out.fz 2
   clear r2 rh rf F3 T3
   go_wp2_with fail
   have F5 : Hid (Fd (w4.setCell ⟨F, 2, none⟩ (.int .i64 ((k : Int) + 1))) F G n (.slice (some ⟨b, o, none⟩) n c) win ((k : Int) + 1) (updh h s ((k : Int) + 1)) (ad.set k x)) := F4.out.setL _
   have T5 : Hid (Tch (fun j => j = F ∨ j = G) w (w4.setCell ⟨F, 2, none⟩ (.int .i64 ((k : Int) + 1)))) := Tch.setCell T4.out (p := ⟨F, 2, none⟩) (fun _ => .inl rfl) _
   have L5 : Hid (Lk ds (k + 1) (updh h s ((k : Int) + 1)) (ad.set k x)) := by
    have := HL.out.step (by rw [HA.out]; omega)
    rw [hs.out, hx.out] at this
    exact this
   have t2 := F5.out.c2
   go_roundw
   case rel => exact ⟨k + 1, _, _, by omega, by push_cast; exact F5, L5, by show _ = _; rw [List.length_set]; exact HA.out, T5⟩
   case measure => rw [t2, HC2.out]; simp only [Option.getD_some, intOf]; omega
  ·obtain rfl : k = at_ := by omega
   go_wp2_with fail
   go_end0
   exact ⟨⟨_, rfl⟩, ⟨h, ad, HF.out, HL.out, HA.out⟩, HT.out⟩
end Go.Proofs.YtobenjkacpipeaaGreat
