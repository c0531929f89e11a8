import Derived.Test.YtobenjkacpipeaaGreatPFBkw
import Derived.Test.YtobenjkacpipeaaGreatPFDec
set_option maxRecDepth 100000
set_option linter.unusedVariables false
set_option linter.unusedSimpArgs false
set_option maxHeartbeats 8000000
namespace Go.Proofs.YtobenjkacpipeaaGreat
open Go.RowKit Pl Go.Shelf
attribute [local go_sem] Oper.semAt_some
theorem zas9 {w : World} {e : TypeId} {size : Nat} {v : Value} {n : Nat} {xs : List Value} (h : w.ownsRow 0 e size v n xs) {k : Nat} (hk : v.ownBlock = some k) : ∃ cur, w.heap[k]? = some (.cells cur e (0, 0)) := by
 rcases h.2 with ⟨rfl, _⟩ | ⟨g, cap, cur, rfl, _, hg, _⟩
 ·cases hk
 ·simp only [Value.ownBlock, Option.some.injEq] at hk
  subst hk
  exact ⟨cur, hg⟩
abbrev Gs (s : List Int) : Type := Nat × { x : Int // 0 <= x /\ x.toNat < s.length /\ s.getD x.toNat 0 ≠ 0 }
def gsE (s : List Int) (x : Gs s) : Array Value := #[.int .i64 (x.1 : Int), .int .i64 x.2.1]
def symsOf {s : List Int} (pre : List (Gs s)) : List Int := (pre.map (fun x => x.2.1)).reverse
theorem znj9 {s : List Int} (pre : List (Gs s)) (x : Gs s) : symsOf (pre ++ [x]) = x.2.1 :: symsOf pre := by simp [symsOf]
structure Es (w W : World) (B3 B8 g9 B10 B11 Bs b : Nat) (sv dv : Value) (s : List Int) (z : Nat) (rv : Value) (σ : Nat) (bs : List Int) : Prop where
 b3 : W.heap[B3]? = some (.cells #[sv] 56 (0, 0))
 b8 : W.heap[B8]? = some (.cells #[.int .i64 (z : Int)] 3 (0, 0))
 sp : Iv W g9 148 576 (sp (nn s) s.length z z)
 b10 : W.heap[B10]? = some (.cells #[.pointer (some ⟨b, 0, none⟩)] 114 (0, 0))
 b11 : W.heap[B11]? = some (.cells #[.int .i64 (σ : Int)] 3 (0, 0))
 bx : W.heap[Bs]? = some (.cells #[dv] 56 (0, 0))
 wr : Wr W b rv bs
 bel : Below w.heap.size w W
 bn : w.heap.size <= b
 rn : ∀ k, rv.ownBlock = some k -> w.heap.size <= k
 n11 : w.heap.size <= B11
 ne : B8 ≠ B11
section
variable {w W W' : World} {B3 B8 g9 B10 B11 Bs b : Nat} {sv dv : Value} {s : List Int} {z : Nat} {rv rv' : Value} {σ σ' : Nat} {bs bs' : List Int}
theorem Es.rvb (h : Es w W B3 B8 g9 B10 B11 Bs b sv dv s z rv σ bs) {k : Nat} (hk : rv.ownBlock = some k) : ∃ c, W.heap[k]? = some (.cells c 5 (0, 0)) := zas9 h.wr.own hk
theorem Es.ne_wr (h : Es w W B3 B8 g9 B10 B11 Bs b sv dv s z rv σ bs) {k : Nat} {c : Array Value} {t : TypeId} (hk : W.heap[k]? = some (.cells c t (0, 0))) (h1 : t ≠ 154) (h2 : t ≠ 5) : ¬ (k = b ∨ rv.ownBlock = some k) := by
 rintro (e | e)
 ·rw [e, h.wr.blk] at hk
  simp only [Option.some.injEq, Obj.cells.injEq] at hk
  exact h1 hk.2.1.symm
 ·obtain ⟨c', hc'⟩ := h.rvb e
  rw [hc'] at hk
  simp only [Option.some.injEq, Obj.cells.injEq] at hk
  exact h2 hk.2.1.symm
theorem zaw9 {S : Nat -> Prop} (ht : Tch S W W') {k : Nat} {o : Obj} (hk : W.heap[k]? = some o) (hn : ¬ S k) : W'.heap[k]? = some o := by
 rw [ht.block k (Array.getElem?_eq_some_iff.1 hk).1 hn]; exact hk
theorem Es.put (h : Es w W B3 B8 g9 B10 B11 Bs b sv dv s z rv σ bs) (hp : WrTo W b rv W' rv' bs') : Es w W' B3 B8 g9 B10 B11 Bs b sv dv s z rv' σ bs' := by
 refine ⟨zaw9 hp.tch h.b3 (h.ne_wr h.b3 (by decide) (by decide)), zaw9 hp.tch h.b8 (h.ne_wr h.b8 (by decide) (by decide)), h.sp.tch hp.tch (h.ne_wr h.sp (by decide) (by decide)), zaw9 hp.tch h.b10 (h.ne_wr h.b10 (by decide) (by decide)),
  zaw9 hp.tch h.b11 (h.ne_wr h.b11 (by decide) (by decide)), zaw9 hp.tch h.bx (h.ne_wr h.bx (by decide) (by decide)), hp.wr, h.bel.trans (hp.tch.below h.bel.size (fun k hk => ?_)), h.bn, fun k hk => ?_, h.n11, h.ne⟩
 ·rcases hk with e | e
  ·rw [e]; exact h.bn
  ·exact h.rn k e
 ·rcases hp.fresh k hk with e | e
  ·exact h.rn k e
  ·have := h.bel.size; omega
theorem Es.tch {S : Nat -> Prop} (h : Es w W B3 B8 g9 B10 B11 Bs b sv dv s z rv σ bs) (ht : Tch S W W') (hS : ∀ k c t, W.heap[k]? = some (.cells c t (0, 0)) -> ¬ S k) (hn : ∀ k, S k -> w.heap.size <= k) : Es w W' B3 B8 g9 B10 B11 Bs b sv dv s z rv σ bs := by
 refine ⟨zaw9 ht h.b3 (hS _ _ _ h.b3), zaw9 ht h.b8 (hS _ _ _ h.b8), h.sp.tch ht (hS _ _ _ h.sp), zaw9 ht h.b10 (hS _ _ _ h.b10), zaw9 ht h.b11 (hS _ _ _ h.b11), zaw9 ht h.bx (hS _ _ _ h.bx),
  h.wr.tch ht (hS _ _ _ h.wr.blk) (fun k hk => by obtain ⟨c, hc⟩ := h.rvb hk; exact hS _ _ _ hc), h.bel.trans (ht.below h.bel.size hn), h.bn, h.rn, h.n11, h.ne⟩
theorem Es.blw (h : Es w W B3 B8 g9 B10 B11 Bs b sv dv s z rv σ bs) (hb : Below W.heap.size W W') : Es w W' B3 B8 g9 B10 B11 Bs b sv dv s z rv σ bs :=
 h.tch (S := fun _ => False) (Tch.of_below hb) (fun _ _ _ _ e => e) (fun _ e => e.elim)
theorem Es.state (h : Es w W B3 B8 g9 B10 B11 Bs b sv dv s z rv σ bs) (τ : Nat) : Es w (W.setCell ⟨B11, 0, none⟩ (.int .i64 (τ : Int))) B3 B8 g9 B10 B11 Bs b sv dv s z rv τ bs := by
 have ht : Tch (fun k => k = B11) W (W.setCell ⟨B11, 0, none⟩ (.int .i64 (τ : Int))) := Tch.setCell (Tch.refl (fun k => k = B11) W) (p := ⟨B11, 0, none⟩) (fun _ => rfl) _
 have ne : ∀ {k : Nat} {c : Array Value} {t : TypeId}, W.heap[k]? = some (.cells c t (0, 0)) -> t ≠ 3 -> ¬ k = B11 := fun hk h1 e => by
  rw [e, h.b11] at hk
  simp only [Option.some.injEq, Obj.cells.injEq] at hk
  exact h1 hk.2.1.symm
 refine ⟨zaw9 ht h.b3 (ne h.b3 (by decide)), zaw9 ht h.b8 h.ne, h.sp.tch ht (ne h.sp (by decide)), zaw9 ht h.b10 (ne h.b10 (by decide)), ?_, zaw9 ht h.bx (ne h.bx (by decide)),
  h.wr.tch ht (fun e => ne h.wr.blk (by decide) e) (fun k hk => by obtain ⟨c, hc⟩ := h.rvb hk; exact ne hc (by decide)), h.bel.trans (ht.below h.bel.size (fun k e => by rw [e]; exact h.n11)), h.bn, h.rn, h.n11, h.ne⟩
 rw [heap_setCell_same W B11 0 _ _ _ h.b11]
 simp
theorem Es.own (h : Es w W B3 B8 g9 B10 B11 Bs b sv dv s z rv σ bs) {row : Option Nat} (hg : W.grownBy W' row) (hr : ∀ r, row = some r -> w.heap.size <= r /\ ∃ o : Obj, W.heap[r]? = some o /\ o.isCells = false) : Es w W' B3 B8 g9 B10 B11 Bs b sv dv s z rv σ bs := by
 have ht : Tch (fun k => row = some k) W W' := (Tch.refl _ W).grown hg (fun _ _ e => e)
 refine h.tch ht (fun k c t hk e => ?_) (fun k e => (hr k e).1)
 obtain ⟨_, o, ho, hc⟩ := hr k e
 rw [hk] at ho
 obtain rfl := Option.some.inj ho
 simp [Obj.isCells] at hc
end
theorem zic9 (σ : Nat) (n : Nat) : bitsOf ((σ % 2 ^ n : Nat) : Int) n = bitsOf (σ : Int) n := by
 refine zg9 (by rw [za9, za9]) (fun i hi => ?_)
 rw [za9] at hi
 rw [zbk9, zbk9, if_pos hi, if_pos hi]
 have e : ∀ m : Nat, ((m : Int) / 2 ^ i % 2) = ((m / 2 ^ i % 2 : Nat) : Int) := fun m => by push_cast; rfl
 rw [e, e]
 congr 1
 have h1 : 2 ^ n = 2 ^ i * 2 ^ (n - i) := by rw [<- Nat.pow_add]; congr 1; omega
 rw [h1, Nat.mod_mul_right_div_self]
 have h2 : 2 ^ (n - i) = 2 * 2 ^ (n - i - 1) := by rw [<- Nat.pow_succ']; congr 1; omega
 rw [h2, Nat.mod_mul_right_mod]
theorem zym9 (σ n T : Nat) (hT : 2 ^ n = T) (hσ : σ < 1024) (hn : n <= 10) : Go.bits BinOp.and IntKind.i64 (σ : Int) ((T : Int) - 1) = ((σ % T : Nat) : Int) := by
 have h1 : 0 < T := by rw [<- hT]; exact Nat.pow_pos (by decide)
 have h2 : T <= 1024 := by rw [<- hT]; exact Nat.pow_le_pow_right (by decide) hn
 have e : (T : Int) - 1 = ((T - 1 : Nat) : Int) := by omega
 rw [e, (bits_nat .i64 62 (by decide) zi9 σ (T - 1) (by omega) (by omega)).1, <- hT, Nat.and_two_pow_sub_one_eq_mod]
theorem gs_of {s ds : List Int} (ha : allS s ds = true) (hl : s.getD (s.length - 1) 0 ≠ 0) (hp : 0 < s.length) : ∃ g : Nat -> Gs s,
  (∀ j, j < ds.length -> gsE s (g j) = #[.int .i64 ((ds.length - 1 - j : Nat) : Int), .int .i64 (ds[ds.length - 1 - j]?.getD 0)]) /\ symsOf (uptoB g ds.length) = ds := by
 unfold allS at ha
 rw [decide_eq_true_eq] at ha
 refine ⟨fun j => if h : ds.length - 1 - j < ds.length then (ds.length - 1 - j, ⟨ds.getD (ds.length - 1 - j) 0, ha _ h⟩) else (0, ⟨((s.length - 1 : Nat) : Int), by omega, by omega, by rw [Int.toNat_natCast]; exact hl⟩), fun j hj => ?_, ?_⟩
 ·have e : ds.length - 1 - j < ds.length := by omega
  simp only [dif_pos e, gsE, List.getD_eq_getElem?_getD]
 ·refine zg9 (by simp [symsOf, uptoB]) (fun i hi => ?_)
  have hi' : i < ds.length := by simpa [symsOf, uptoB] using hi
  have e : ds.length - 1 - i < ds.length := by omega
  simp only [symsOf, uptoB, List.map_map]
  rw [List.getD_eq_getElem?_getD, List.getElem?_reverse (by simpa using hi')]
  simp only [List.length_map, List.length_range]
  rw [List.getElem?_map, List.getElem?_range e]
  simp only [Option.map_some, Option.getD_some, Function.comp]
  have e2 : ds.length - 1 - (ds.length - 1 - i) = i := by omega
  simp only [e2, dif_pos hi']
theorem zvm9 {w W W' : World} {B3 B8 g9 B10 B11 Bs b : Nat} {sv dv : Value} {s : List Int} {z : Nat} {rv rv' : Value} {σ σ' : Nat} {bs bs' : List Int} (B : Nat)
  (h : Es w W B3 B8 g9 B10 B11 Bs b sv dv s z rv σ bs) (h' : Es w W' B3 B8 g9 B10 B11 Bs b sv dv s z rv' σ' bs') (ht : Tch (fun k => (k = b ∨ rv.ownBlock = some k) ∨ k = B11) W W') : KeepsFrom B W W' /\ KB w.heap.size Bs W W' := by
 refine ⟨⟨ht.size, fun k o _ hk ho => ?_⟩, ht.below h.bel.size (fun k hk => ?_), fun v hv => ?_⟩
 ·rw [ht.block k (Array.getElem?_eq_some_iff.1 hk).1 ?_]
  ·exact hk
  ·rintro ((e | e) | e)
   ·rw [e, h.wr.blk] at hk; obtain rfl := Option.some.inj hk; simp [Obj.isCells] at ho
   ·obtain ⟨c, hc⟩ := h.rvb e; rw [hc] at hk; obtain rfl := Option.some.inj hk; simp [Obj.isCells] at ho
   ·rw [e, h.b11] at hk; obtain rfl := Option.some.inj hk; simp [Obj.isCells] at ho
 ·rcases hk with (e | e) | e
  ·rw [e]; exact h.bn
  ·exact h.rn k e
  ·rw [e]; exact h.n11
 ·rw [cell_of_row _ _ 0 _ _ (0, 0) h.bx] at hv
  rw [cell_of_row _ _ 0 _ _ (0, 0) h'.bx]
  exact hv
set_option maxRecDepth 100000 in
theorem znd9 (sv dv : Value) (s ds : List Int) (lg : Nat) (w : World) (hr : Rd .i64 w sv s) (hd : Rd .i64 w dv ds) (hm : mayS s lg = true) (hl : ds.length <= 65536) (ha : allS s ds = true) :
  Calls Tryz.prog 92 #[sv, .int .i64 lg, dv] w fun e w' => EPostF (0, pack (eRow (nn s) s.length (2 ^ lg) lg ds ++ [1])) w e w' := by
 have HR : Hid (Rd .i64 w sv s) := hr
 have HD : Hid (Rd .i64 w dv ds) := hd
 obtain ⟨sa, sc, hsv⟩ : ∃ a c, sv = .slice a s.length c := by obtain ⟨a, c, e, _⟩ := hr; exact ⟨a, c, e⟩
 obtain ⟨da, dc, hdv⟩ : ∃ a c, dv = .slice a ds.length c := by obtain ⟨a, c, e, _⟩ := hd; exact ⟨a, c, e⟩
 subst hsv hdv
 have HM : Hid (mayS s lg = true) := hm
 obtain ⟨lg', e, hk⟩ := Sok.of hm
 obtain rfl : lg = lg' := by exact_mod_cast e
 have HK : Hid (Sok s lg) := hk
 have HA : Hid (allS s ds = true) := ha
 have hl5 := hk.lo
 have hl9 := hk.hi
 have hlen := hk.len
 obtain ⟨z, hz, hz1, hz2, hpw, _⟩ := pow_z hl5 hl9
 have HB0 : Hid (Below w.heap.size w (w.alloc (.cells #[.slice sa s.length sc] 56))) := (Below.refl _ _).alloc (Nat.le_refl _) _
 obtain ⟨hvS, hiS⟩ := zero_of_info zih9
 have HIS : Hid ((Tryz.prog.info? 148).map (·.size) = some 576) := hiS
 obtain ⟨ZS, hZS⟩ : ∃ Z, Hid ((ics 576 (fun _ => 0)).toArray = Z) := ⟨_, rfl⟩
 rw [hZS.out] at hvS
 have HZSL : Hid (ZS.size = 576) := by show _ = _; rw [<- hZS.out, zcs9]
 have hn' : decide ((65536 : Int) < (ds.length : Int)) = false := by rw [decide_eq_false_iff_not]; omega
 rw [hz.out]
 clear hr hd hm hk ha e hiS
 refine (callsIn_wide (n := 6)).1 ?_
 refine callsIn_of_wp_marks Tryz.func92 rfl trivial ?_ rfl
 simp only [Tryz.ntmps92, List.size_toArray, List.length_cons, List.length_nil, Nat.reduceAdd, Nat.reduceSub, Array.replicate_succ, Array.replicate_zero, List.push_toArray, List.append_toArray, List.nil_append, List.cons_append]
 refine wpIn_wide.2 ?_
 go_wp2_with fail
 refine (zau9 _ s lg _ (HR.out.below HB0.out)).mono ?_
 rintro e w1 ⟨rfl, rfl⟩
 rw [HM.out]
 go_wp2_with fail
 refine (zfl9 _ _ s ds _ HK.out.pos HK.out.len hl (HR.out.below HB0.out) (HD.out.below HB0.out)).mono ?_
 rintro e w1 ⟨rfl, rfl⟩
 rw [HA.out]
 go_wp2_with fail
 have HB1 : Hid (Below w.heap.size w ((w.alloc (.cells #[.slice sa s.length sc] 56)).alloc (.cells #[.int .i64 (z : Int)] 3))) := HB0.out.alloc (by simp) _
 refine (zmi9 _ s lg z _ (HR.out.below HB1.out) HK.out hz.out).mono ?_
 rintro e w2 ⟨rfl, hb2⟩
 obtain ⟨FS, hFS⟩ : ∃ FS, Hid (ics 576 (sp (nn s) s.length z z) = FS) := ⟨_, rfl⟩
 have HTS : Hid (FS.toArray.size = 576) := by show _ = _; rw [List.size_toArray, <- hFS.out, zp9]
 have HTO : Hid (FS.toArray.all (·.oneCell') = true) := by show _ = _; rw [<- hFS.out]; exact zdv9 _ _
 rw [hFS.out]
 have HBW : Hid (Below ((w.alloc (.cells #[.slice sa s.length sc] 56)).alloc (.cells #[.int .i64 (z : Int)] 3)).heap.size ((w.alloc (.cells #[.slice sa s.length sc] 56)).alloc (.cells #[.int .i64 (z : Int)] 3)) w2) := hb2
 have hs2 : w.heap.size + 2 <= w2.heap.size := by have := hb2.size; simp at this; omega
 have q3 : Hid (w2.heap[w.heap.size]? = some (.cells #[.slice sa s.length sc] 56 (0, 0))) := by
  show _ = _
  rw [hb2.block w.heap.size (by simp only [World.size_alloc]; omega), Below.heap_alloc _ _ _ (by simp)]
  exact heap_alloc_new w _
 have q8 : Hid (w2.heap[w.heap.size + 1]? = some (.cells #[.int .i64 (z : Int)] 3 (0, 0))) := by
  show _ = _
  rw [hb2.block (w.heap.size + 1) (by simp only [World.size_alloc]; omega)]
  have := heap_alloc_new (w.alloc (.cells #[.slice sa s.length sc] 56)) (.cells #[.int .i64 (z : Int)] 3)
  simpa using this
 have HB2 : Hid (Below w.heap.size w w2) := HB1.out.trans (hb2.mono HB1.out.size)
 clear hb2 HBW
 have c8 : w2.cell? ⟨w.heap.size + 1, 0, none⟩ = some (.int .i64 (z : Int)) := by rw [cell_of_row _ _ 0 _ _ (0, 0) q8.out]; rfl
 go_wp2_with (refine zl9 w2 rfl 148 (.tmp 9) (.tmp 32) rfl ZS FS.toArray rfl rfl (by rw [HTS.out]; exact HIS.out) (by rw [HTS.out, HZSL.out]) HTO.out ?_)
 obtain ⟨W3, hW3⟩ : ∃ W3, Hid (w2.alloc (.cells FS.toArray 148) = W3) := ⟨_, rfl⟩
 have hb3 : Below w2.heap.size w2 W3 := by rw [<- hW3.out]; exact (Below.refl _ _).alloc (Nat.le_refl _) _
 have hs3 : W3.heap.size = w2.heap.size + 1 := by rw [<- hW3.out]; simp
 have r3 : Hid (Iv W3 w2.heap.size 148 576 (sp (nn s) s.length z z)) := by
  have h := iv_new w2 148 576 (sp (nn s) s.length z z)
  rw [hFS.out, hW3.out] at h
  exact h
 have q3' : Hid (W3.heap[w.heap.size]? = some (.cells #[.slice sa s.length sc] 56 (0, 0))) := by show _ = _; rw [hb3.block _ (by omega)]; exact q3.out
 have q8' : Hid (W3.heap[w.heap.size + 1]? = some (.cells #[.int .i64 (z : Int)] 3 (0, 0))) := by show _ = _; rw [hb3.block _ (by omega)]; exact q8.out
 have HB3 : Hid (Below w.heap.size w W3) := HB2.out.trans (hb3.mono HB2.out.size)
 rw [hW3.out]
 clear hb3 q3 q8 c8 hW3 hvS
 refine (zbd9 W3).mono ?_
 rintro e w4 ⟨rfl, hw4, hb4⟩
 have hs4 : W3.heap.size < w4.heap.size := hw4.lt
 have H4 : Hid (Wr w4 W3.heap.size (.slice none 0 0) []) := hw4
 have r4 : Hid (Iv w4 w2.heap.size 148 576 (sp (nn s) s.length z z)) := r3.out.below hb4
 have q34 : Hid (w4.heap[w.heap.size]? = some (.cells #[.slice sa s.length sc] 56 (0, 0))) := by show _ = _; rw [hb4.block _ (by omega)]; exact q3'.out
 have q84 : Hid (w4.heap[w.heap.size + 1]? = some (.cells #[.int .i64 (z : Int)] 3 (0, 0))) := by show _ = _; rw [hb4.block _ (by omega)]; exact q8'.out
 have HB4 : Hid (Below w.heap.size w w4) := HB3.out.trans (hb4.mono HB3.out.size)
 have c8 : w4.cell? ⟨w.heap.size + 1, 0, none⟩ = some (.int .i64 (z : Int)) := by rw [cell_of_row _ _ 0 _ _ (0, 0) q84.out]; rfl
 clear hw4 hb4 r3 q3' q8'
 obtain ⟨b, hb⟩ : ∃ b, W3.heap.size = b := ⟨_, rfl⟩
 rw [hb] at H4 hs4
 rw [hb]
 have hb8 : w.heap.size + 1 < w4.heap.size := by omega
 have hb8' : ¬ w.heap.size + 1 = w4.heap.size := by omega
 have hb9 : w2.heap.size < b := by omega
 have hwA : w.heap.size < w4.heap.size := by omega
 have hwb : w.heap.size <= b := by omega
 obtain ⟨B3, hB3⟩ : ∃ B3, Hid (w.heap.size = B3) := ⟨_, rfl⟩
 obtain ⟨B8, hB8⟩ : ∃ B8, Hid (w.heap.size + 1 = B8) := ⟨_, rfl⟩
 obtain ⟨g9, hg9⟩ : ∃ g9, Hid (w2.heap.size = g9) := ⟨_, rfl⟩
 rw [hB8.out] at q84 c8 hb8 hb8'
 rw [hg9.out] at r4 hb9
 rw [hB8.out, hg9.out]
 clear hb hs2 hs3
 go_wp2_with fail
 refine (callsIn_wide.1 (zaat9 Fence.wide 6 trivial rfl da ds.length dc _)).mono ?_
 rintro e w5 ⟨rfl, hw5⟩
 have hs5 : w5.heap.size = w4.heap.size + 3 := by rw [hw5]; simp
 have hb45 : Below w4.heap.size w4 w5 := by rw [hw5]; exact (((Below.refl _ w4).alloc (Nat.le_refl _) _).alloc (by simp) _).alloc (by simp; omega) _
 obtain ⟨B10, hB10⟩ : ∃ B10, Hid (w4.heap.size = B10) := ⟨_, rfl⟩
 obtain ⟨B11, hB11⟩ : ∃ B11, Hid (w4.heap.size + 1 = B11) := ⟨_, rfl⟩
 obtain ⟨Bs, hBs⟩ : ∃ Bs, Hid (w4.heap.size + 2 = Bs) := ⟨_, rfl⟩
 have E0 : Hid (Es w w5 B3 B8 g9 B10 B11 Bs b (.slice sa s.length sc) (.slice da ds.length dc) s z (.slice none 0 0) z []) := by
  refine ⟨?_, ?_, r4.out.below hb45, ?_, ?_, ?_, H4.out.tch (S := fun _ => False) (Tch.of_below hb45) (fun e => e) (fun _ _ e => e), HB4.out.trans (hb45.mono HB4.out.size), ?_, (fun k e => by cases e), ?_, ?_⟩
  ·rw [<- hB3.out, hb45.block _ (by omega)]; exact q34.out
  ·rw [hb45.block _ hb8]; exact q84.out
  ·rw [<- hB10.out, hw5, Below.heap_alloc _ _ _ (by simp only [World.size_alloc]; omega), Below.heap_alloc _ _ _ (by simp)]; exact heap_alloc_new w4 _
  ·rw [<- hB11.out, hw5, Below.heap_alloc _ _ _ (by simp)]
   have := heap_alloc_new (w4.alloc (.cells #[.pointer (some ⟨b, 0, none⟩)] 114)) (.cells #[.int .i64 (z : Int)] 3)
   simpa using this
  ·rw [<- hBs.out, hw5]
   have := heap_alloc_new ((w4.alloc (.cells #[.pointer (some ⟨b, 0, none⟩)] 114)).alloc (.cells #[.int .i64 (z : Int)] 3)) (.cells #[.slice da ds.length dc] 56)
   simpa using this
  ·exact hwb
  ·rw [<- hB11.out]; have := HB4.out.size; omega
  ·rw [<- hB11.out]; omega
 have hB3l : B3 < w5.heap.size := by rw [<- hB3.out]; omega
 have hBsl : Bs < w5.heap.size := by rw [<- hBs.out, hs5]; omega
 have HB5 : Hid (w.heap.size <= w5.heap.size) := E0.out.bel.size
 rw [World.size_alloc, World.size_alloc, hBs.out, hB3.out, hB11.out, hB10.out]
 clear hwA hwb hw5 hs5 hb45 r4 q34 q84 c8 H4 HB4 HB2 HB3 hb8 hb8' hb9 hs4 HTS HTO hFS HIS hZS HZSL hB10 hB11 hBs hB8 hg9 HB0 HB1
 go_wp2_with fail
 obtain ⟨g, hg, hgs⟩ := gs_of HA.out HK.out.last HK.out.pos
 have HGS : Hid (symsOf (uptoB g ds.length) = ds) := hgs
 have hcell : w5.cell? ⟨Bs, 0, none⟩ = some (.slice da ds.length dc) := by rw [cell_of_row _ _ 0 _ _ (0, 0) E0.out.bx]; rfl
 have hI0 : ds = [] ∨ ∃ b off, da = some ⟨b, off, none⟩ /\ b < w.heap.size /\ ∀ j, j < ds.length -> w5.cell? ⟨b, off + j, none⟩ = some (.int .i64 (ds.getD j 0)) := by
  obtain ⟨a, cap, e, _, _, _, h⟩ := HD.out
  simp only [Value.slice.injEq] at e
  obtain ⟨rfl, _, rfl⟩ := e
  by_cases h0 : ds = []
  ·exact .inl h0
  ·rcases h with h | ⟨b, o, rfl, hc⟩
   ·exact .inl h
   ·have hpos : 0 < ds.length := by cases ds with | nil => exact absurd rfl h0 | cons x r => simp
    have hlt := World.block_lt_of_cell? w ⟨b, o + 0, none⟩ (hc 0 hpos)
    exact .inr ⟨b, o, rfl, hlt, fun j hj => by rw [E0.out.bel.cell (p := ⟨b, o + j, none⟩) hlt]; exact hc j hj⟩
 have hst := zph9 (gsE s) g Fence.wide 5 trivial rfl (by omega) Bs w.heap.size da dc ds (by omega) w5 hBsl HB5.out hcell hI0 hg
 clear hcell hI0 hg hgs
 refine wpIn_wide.1 (wpIn_rangeFunc_ownG (F := Fence.wide) (n := 6) rfl (by omega) (gf := 145) (lb := #[.pointer (some ⟨Bs, 0, none⟩)]) rfl trivial (enters_of Tryz.func145 (by kernel_rfl) rfl)
  hst KB.t (KB.b HB5.out) (Below.refl _ _) (fun _ => rfl)
  (fun pre W => ∃ rv, Es w W B3 B8 g9 B10 B11 Bs b (.slice sa s.length sc) (.slice da ds.length dc) s z rv (en (nn s) s.length z (symsOf pre)).1 (en (nn s) s.length z (symsOf pre)).2)
  (fun _ _ _ => False)
  (fun pre A A' row hs hg hr => by obtain ⟨rv, he⟩ := hs; exact ⟨rv, he.own hg (fun r e => ⟨Nat.le_trans HB5.out (hr r e).1, (hr r e).2⟩)⟩)
  (fun _ _ _ _ _ hs _ _ => hs)
  ⟨_, E0.out⟩
  (fun x => { tmps := #[Value.slice sa s.length sc, Value.int .i64 (lg : Int), Value.slice da ds.length dc, Value.pointer (some ⟨B3, 0, none⟩), undef, undef, Value.slice none 0 0, Value.int .i64 0, Value.pointer (some ⟨B8, 0, none⟩), Value.pointer (some ⟨g9, 0, none⟩), Value.pointer (some ⟨B10, 0, none⟩), Value.pointer (some ⟨B11, 0, none⟩), undef, Value.int .i64 x.2.1, undef, Value.slice sa s.length sc, Value.int .i64 (lg : Int), Value.bool true, Value.bool false, Value.slice da ds.length dc, Value.int .i64 (ds.length : Int), Value.bool false, Value.bool false, Value.slice sa s.length sc, Value.slice da ds.length dc, Value.bool true, Value.bool false, Value.bool false, Value.int .i64 (lg : Int), Value.int .i64 (z : Int), Value.slice sa s.length sc, Value.int .i64 (z : Int), Value.agg FS.toArray, Value.pointer (some ⟨b, 0, none⟩), Value.int .i64 (z : Int), Value.slice da ds.length dc, Value.func (.func 145) #[] #[.pointer (some ⟨Bs, 0, none⟩)], Value.int .i64 (x.1 : Int), Value.int .i64 x.2.1, undef, undef, undef, undef, undef, undef, undef, undef, undef, undef, undef, undef, undef, undef, undef, undef, undef, undef, undef, undef, undef, undef, undef, undef, undef, undef, undef, undef, undef, undef, undef, undef, undef, undef], defers := [] }) ?assign ?body ?done ?stop)
 case assign =>
  intro l x W K hK
  simp only [gsE]
  gi_wp2
  exact hK
 case stop =>
  rintro D c pre W _ _ h _
  exact h.elim
 case done =>
  rintro D ys W hD rfl ⟨rv, he⟩ hK
  rw [HGS.out] at he
  obtain ⟨σ, hσ⟩ : ∃ σ, Hid ((en (nn s) s.length z ds).1 = σ) := ⟨_, rfl⟩
  obtain ⟨bs, hbs⟩ : ∃ bs, Hid ((en (nn s) s.length z ds).2 = bs) := ⟨_, rfl⟩
  rw [hσ.out, hbs.out] at he
  have hσ1 := zns9 (z := z) (by omega) (nn s) s.length ds
  rw [hσ.out] at hσ1
  have hlb := en_len (nn s) s.length z ds
  rw [hbs.out] at hlb
  have HLB : Hid (bs.length <= 655360) := by show _ <= _; omega
  have c8 : W.cell? ⟨B8, 0, none⟩ = some (.int .i64 (z : Int)) := by rw [cell_of_row _ _ 0 _ _ (0, 0) he.b8]; rfl
  have c10 : W.cell? ⟨B10, 0, none⟩ = some (.pointer (some ⟨b, 0, none⟩)) := by rw [cell_of_row _ _ 0 _ _ (0, 0) he.b10]; rfl
  have c11 : W.cell? ⟨B11, 0, none⟩ = some (.int .i64 (σ : Int)) := by rw [cell_of_row _ _ 0 _ _ (0, 0) he.b11]; rfl
  obtain ⟨τ, hτ⟩ : ∃ τ, Hid (σ - z = τ) := ⟨_, rfl⟩
  have hτI : (σ : Int) - (z : Int) = (τ : Int) := by rw [<- hτ.out]; omega
  have hτ1 : τ < z := by rw [<- hτ.out]; omega
  have HE : Hid (Es w W B3 B8 g9 B10 B11 Bs b (.slice sa s.length sc) (.slice da ds.length dc) s z rv σ bs) := he
  have HKD : Hid (W.heap[D]? = some (.deferred (some []))) := hK
  have HDD : Hid (w5.heap.size <= D) := hD
  have HROW : Hid (eRow (nn s) s.length z lg ds = bs ++ bitsOf (τ : Int) lg) := by
   show _ = _
   unfold eRow
   rw [hσ.out, hbs.out, hτI]
  have hσ3 : σ <= 1024 := by omega
  clear he hK hD hlb hσ hbs hst HGS
  go_wp2_with fail
  have e2 : ((2 : Int) ^ lg) = (z : Int) := by rw [<- hz.out]; push_cast; rfl
  refine (put_ok b rv lg (τ : Int) bs W HE.out.wr (by have := HLB.out; omega) (by omega) (by omega) (by rw [e2]; omega)).mono ?_
  rintro e w6 ⟨rfl, rv6, h6⟩
  have E6 : Hid (Es w w6 B3 B8 g9 B10 B11 Bs b (.slice sa s.length sc) (.slice da ds.length dc) s z rv6 σ (bs ++ bitsOf (τ : Int) lg)) := HE.out.put h6
  have K6 : Hid (w6.heap[D]? = some (.deferred (some []))) := by
   refine zaw9 h6.tch HKD.out ?_
   rintro (e | e)
   ·have := HE.out.wr.blk; rw [<- e, HKD.out] at this; simp at this
   ·obtain ⟨c, hc⟩ := HE.out.rvb e; rw [HKD.out] at hc; simp at hc
  have c10' : w6.cell? ⟨B10, 0, none⟩ = some (.pointer (some ⟨b, 0, none⟩)) := by rw [cell_of_row _ _ 0 _ _ (0, 0) E6.out.b10]; rfl
  clear h6 HE HKD c8 c10 c11 e2
  go_wp2_with fail
  refine (znb9 b rv6 _ w6 E6.out.wr (by rw [List.length_append, za9]; have := HLB.out; omega)).mono ?_
  rintro e w7 ⟨v7, rfl, ho7, hb7, hf7⟩
  rw [<- HROW.out] at ho7
  have O7 : Hid (Owns .u8 5 w7 v7 (pack (eRow (nn s) s.length z lg ds ++ [1]))) := ho7
  have B7 : Hid (Below w.heap.size w w7) := E6.out.bel.trans (hb7.mono E6.out.bel.size)
  have F7 : Hid (∀ k, v7.ownBlock = some k -> w.heap.size <= k) := fun k hk => Nat.le_trans E6.out.bel.size (hf7 k hk)
  have K7 : Hid (w7.heap[D]? = some (.deferred (some []))) := by show _ = _; rw [hb7.block D (Array.getElem?_eq_some_iff.1 K6.out).1]; exact K6.out
  obtain ⟨va, vc, hv7⟩ : ∃ a c, v7 = .slice a (pack (eRow (nn s) s.length z lg ds ++ [1])).length c := by obtain ⟨a, c, e, _⟩ := ho7.rd; exact ⟨a, c, e⟩
  subst hv7
  obtain ⟨PL, hPL'⟩ : ∃ PL : Nat, (pack (eRow (nn s) s.length z lg ds ++ [1])).length = PL := ⟨_, rfl⟩
  have hPL : Hid ((pack (eRow (nn s) s.length z lg ds ++ [1])).length = PL) := hPL'
  clear hPL'
  rw [hPL.out] at O7 F7
  rw [hPL.out]
  clear ho7 hb7 hf7 E6 K6 c10'
  go_wp2_with fail
  refine ⟨by simp, .inl ⟨_, _, rfl, run_takeDeferred K7.out, ?_⟩⟩
  have htp : Tch (fun k => k = D) w7 (w7.putObj D (.deferred none)) := (Tch.refl _ w7).grown (grownBy_putObj' w7 D (.deferred none)) (fun k _ e => by cases e; rfl)
  refine ⟨_, results_tmp2 rfl _ _ _, _, rfl, ?_, F7.out, ?_⟩
  ·exact B7.out.trans (htp.below B7.out.size (fun k e => by rw [e]; exact Nat.le_trans HB5.out HDD.out))
  ·refine O7.out.tch htp (fun j hj e => ?_)
   obtain ⟨c, hc⟩ := zas9 (show w7.ownsRow 0 5 1 _ _ _ from O7.out) hj
   rw [e, K7.out] at hc
   simp at hc
 case body =>
  rintro l pre x W ⟨rv, he⟩ hpl
  have hy0 := x.2.2.1
  have hy1 := x.2.2.2.1
  have hy2 := x.2.2.2.2
  obtain ⟨k, hxk⟩ := Int.eq_ofNat_of_zero_le hy0
  rw [hxk, Int.toNat_natCast] at hy1 hy2
  have HXK : Hid (x.2.1 = (k : Int)) := hxk
  obtain ⟨xi, hxi⟩ : ∃ xi : Nat, x.1 = xi := ⟨_, rfl⟩
  simp only [hxk, hxi]
  clear hxk hxi hy0
  obtain ⟨σ, hσ⟩ : ∃ σ, Hid ((en (nn s) s.length z (symsOf pre)).1 = σ) := ⟨_, rfl⟩
  obtain ⟨bs, hbs⟩ : ∃ bs, Hid ((en (nn s) s.length z (symsOf pre)).2 = bs) := ⟨_, rfl⟩
  rw [hσ.out, hbs.out] at he
  have hσ1 := zns9 (z := z) (by omega) (nn s) s.length (symsOf pre)
  rw [hσ.out] at hσ1
  have hlb := en_len (nn s) s.length z (symsOf pre)
  rw [hbs.out] at hlb
  have HLB : Hid (bs.length <= 655360) := by show _ <= _; simp only [symsOf, List.length_reverse, List.length_map] at hlb; omega
  have hkl := HK.out.le k
  have hks : k < s.length := hy1
  obtain ⟨sh, hsh⟩ : ∃ sh, Hid (nn s k = sh) := ⟨_, rfl⟩
  rw [hsh.out, hz.out] at hkl
  have hsh1 : 1 <= sh /\ sh <= z := by rw [hkl.1] at hy2; omega
  obtain ⟨sb, so, hsa, hsc⟩ : ∃ sb so, sa = some ⟨sb, so, none⟩ /\ ∀ i, i < s.length -> w.cell? ⟨sb, so + i, none⟩ = some (.int .i64 (s.getD i 0)) := by
   obtain ⟨a, cap, e, _, _, _, h⟩ := HR.out
   simp only [Value.slice.injEq] at e
   obtain ⟨rfl, _, rfl⟩ := e
   rcases h with h | ⟨b, o, rfl, hc⟩
   ·have := HK.out.pos; rw [h] at this; simp at this
   ·exact ⟨b, o, rfl, hc⟩
  subst hsa
  have HSC : Hid (∀ W', Below w.heap.size w W' -> W'.cell? ⟨sb, so + k, none⟩ = some (.int .i64 (sh : Int))) := fun W' hW' => by
   have h0 := hsc k hy1
   rw [hW'.cell (p := ⟨sb, so + k, none⟩) (World.block_lt_of_cell? w ⟨sb, so + k, none⟩ h0), h0, hkl.1]
  obtain ⟨n, hn⟩ : ∃ n, Hid (nb σ sh = n) := ⟨_, rfl⟩
  have hσ4 : σ < 1024 := by omega
  have hn10 : n <= 10 := by rw [<- hn.out]; exact nb_le _ _
  have hnx := nb_x hsh1.1 hσ4 hσ1.1 hsh1.2
  rw [hn.out] at hnx
  obtain ⟨X, hX⟩ : ∃ X, Hid (σ / 2 ^ n = X) := ⟨_, rfl⟩
  rw [hX.out] at hnx
  obtain ⟨T, hT⟩ : ∃ T : Nat, Hid (2 ^ n = T) := ⟨_, rfl⟩
  have hT1 : 0 < T /\ T <= 1024 := by rw [<- hT.out]; exact ⟨Nat.pow_pos (by decide), Nat.pow_le_pow_right (by decide) hn10⟩
  obtain ⟨r, hr⟩ : ∃ r, Hid (σ % T = r) := ⟨_, rfl⟩
  have hr1 : r < T := by rw [<- hr.out]; exact Nat.mod_lt _ hT1.1
  obtain ⟨A, hA⟩ : ∃ A, Hid (X - sh = A) := ⟨_, rfl⟩
  obtain ⟨P, hP⟩ : ∃ P, Hid (pl (nn s) s.length z z (cu (nn s) k + A) = P) := ⟨_, rfl⟩
  have hPz : P < z := by rw [<- hP.out]; exact pl_lt _ _ _ _ _ (by omega)
  have hcu : cu (nn s) k + A < 512 := by
   have h1 := zbj9 (nn s) (show k + 1 <= s.length from hy1)
   have h2 := HK.out.fok.sum
   rw [hz.out] at h2
   simp only [cu] at h1
   rw [hsh.out] at h1
   rw [<- hA.out]
   omega
  have HEN : Hid ((en (nn s) s.length z (symsOf (pre ++ [x]))) = (z + P, bs ++ bitsOf (r : Int) n)) := by
   show _ = _
   rw [znj9, HXK.out]
   simp only [en, nxs, Int.toNat_natCast]
   rw [hσ.out, hbs.out, hsh.out, hn.out, hX.out, hA.out, hP.out, <- hr.out, <- hT.out, zic9]
  have HE : Hid (Es w W B3 B8 g9 B10 B11 Bs b (.slice (some ⟨sb, so, none⟩) s.length sc) (.slice da ds.length dc) s z rv σ bs) := he
  have c11 : W.cell? ⟨B11, 0, none⟩ = some (.int .i64 (σ : Int)) := by rw [cell_of_row _ _ 0 _ _ (0, 0) he.b11]; rfl
  have c3 : W.cell? ⟨B3, 0, none⟩ = some (.slice (some ⟨sb, so, none⟩) s.length sc) := by rw [cell_of_row _ _ 0 _ _ (0, 0) he.b3]; rfl
  have cs := HSC.out W he.bel
  have hki0 : (0 : Int) <= (k : Int) := by omega
  have hki1 : (k : Int) < (s.length : Int) := by omega
  clear he hlb hkl hsc hy1 hy2 hst HGS hpl
  have hd : 1 <= 6 - 1 - 1 := by omega
  have hmx : Tryz.prog.follows .mixedOrders = true := by kernel_rfl
  gi_wp2_with fail
  refine wpIn_mono (Q := fun e a' W' => e = .normal /\ a' = { tmps := #[Value.slice (some ⟨sb, so, none⟩) s.length sc, Value.int .i64 (lg : Int), Value.slice da ds.length dc, Value.pointer (some ⟨B3, 0, none⟩), undef, undef, Value.slice none 0 0, Value.int .i64 0, Value.pointer (some ⟨B8, 0, none⟩), Value.pointer (some ⟨g9, 0, none⟩), Value.pointer (some ⟨B10, 0, none⟩), Value.pointer (some ⟨B11, 0, none⟩), undef, Value.int .i64 (k : Int), Value.int .i64 (n : Int), Value.slice (some ⟨sb, so, none⟩) s.length sc, Value.int .i64 (lg : Int), Value.bool true, Value.bool false, Value.slice da ds.length dc, Value.int .i64 (ds.length : Int), Value.bool false, Value.bool false, Value.slice (some ⟨sb, so, none⟩) s.length sc, Value.slice da ds.length dc, Value.bool true, Value.bool false, Value.bool false, Value.int .i64 (lg : Int), Value.int .i64 (z : Int), Value.slice (some ⟨sb, so, none⟩) s.length sc, Value.int .i64 (z : Int), Value.agg FS.toArray, Value.pointer (some ⟨b, 0, none⟩), Value.int .i64 (z : Int), Value.slice da ds.length dc, Value.func (.func 145) #[] #[.pointer (some ⟨Bs, 0, none⟩)], Value.int .i64 (xi : Int), Value.int .i64 (k : Int), Value.int .i64 (σ : Int), Value.slice (some ⟨sb, so, none⟩) s.length sc, Value.int .i64 (k : Int), Value.pointer (some ⟨sb, so + k, none⟩), Value.int .i64 (sh : Int), Value.int .i64 (n : Int), undef, undef, undef, undef, undef, undef, undef, undef, undef, undef, undef, undef, undef, undef, undef, undef, undef, undef, undef, undef, undef, undef, undef, undef, undef, undef, undef, undef], defers := [] } /\ Below W.heap.size W W') ?m1 ?m2
  case m1 =>
   gi_region_with_o (refine ⟨trivial, ?_⟩; gi_at_call 124; refine (CallsIn.inRound l (callsIn_wide.2 (zkp9 σ sh _ hsh1.1 (by omega) hσ4))).mono ?_; rintro e w' ⟨rfl, rfl⟩; rw [hn.out])
   all_goals exact ⟨rfl, rfl, by repeat (first | exact Below.refl _ _ | apply Below.drew)⟩
  rintro e a' W' ⟨rfl, rfl, hb1⟩
  have E1 : Hid (Es w W' B3 B8 g9 B10 B11 Bs b (.slice (some ⟨sb, so, none⟩) s.length sc) (.slice da ds.length dc) s z rv σ bs) := HE.out.blw hb1
  have TB : Hid (Below W.heap.size W W') := hb1
  have d11 : W'.cell? ⟨B11, 0, none⟩ = some (.int .i64 (σ : Int)) := by rw [cell_of_row _ _ 0 _ _ (0, 0) E1.out.b11]; rfl
  have d10 : W'.cell? ⟨B10, 0, none⟩ = some (.pointer (some ⟨b, 0, none⟩)) := by rw [cell_of_row _ _ 0 _ _ (0, 0) E1.out.b10]; rfl
  clear hb1 c11 c3 cs
  gi_wp2_with fail
  refine wpIn_mono (Q := fun e a' W2 => Hid (e = .normal /\ a' = { tmps := #[Value.slice (some ⟨sb, so, none⟩) s.length sc, Value.int .i64 (lg : Int), Value.slice da ds.length dc, Value.pointer (some ⟨B3, 0, none⟩), undef, undef, Value.slice none 0 0, Value.int .i64 0, Value.pointer (some ⟨B8, 0, none⟩), Value.pointer (some ⟨g9, 0, none⟩), Value.pointer (some ⟨B10, 0, none⟩), Value.pointer (some ⟨B11, 0, none⟩), undef, Value.int .i64 (k : Int), Value.int .i64 (n : Int), Value.slice (some ⟨sb, so, none⟩) s.length sc, Value.int .i64 (lg : Int), Value.bool true, Value.bool false, Value.slice da ds.length dc, Value.int .i64 (ds.length : Int), Value.bool false, Value.bool false, Value.slice (some ⟨sb, so, none⟩) s.length sc, Value.slice da ds.length dc, Value.bool true, Value.bool false, Value.bool false, Value.int .i64 (lg : Int), Value.int .i64 (z : Int), Value.slice (some ⟨sb, so, none⟩) s.length sc, Value.int .i64 (z : Int), Value.agg FS.toArray, Value.pointer (some ⟨b, 0, none⟩), Value.int .i64 (z : Int), Value.slice da ds.length dc, Value.func (.func 145) #[] #[.pointer (some ⟨Bs, 0, none⟩)], Value.int .i64 (xi : Int), Value.int .i64 (k : Int), Value.int .i64 (σ : Int), Value.slice (some ⟨sb, so, none⟩) s.length sc, Value.int .i64 (k : Int), Value.pointer (some ⟨sb, so + k, none⟩), Value.int .i64 (sh : Int), Value.int .i64 (n : Int), Value.pointer (some ⟨b, 0, none⟩), Value.int .i64 (n : Int), Value.int .i64 (σ : Int), Value.int .i64 (n : Int), Value.int .i64 (T : Int), Value.int .i64 ((T : Int) - 1), Value.int .i64 (r : Int), Value.int .i64 0, undef, undef, undef, undef, undef, undef, undef, undef, undef, undef, undef, undef, undef, undef, undef, undef, undef, undef, undef, undef], defers := [] } /\ ∃ rv2, Es w W2 B3 B8 g9 B10 B11 Bs b (.slice (some ⟨sb, so, none⟩) s.length sc) (.slice da ds.length dc) s z rv2 σ (bs ++ bitsOf (r : Int) n) /\ Tch (fun k => k = b ∨ rv.ownBlock = some k) W W2)) ?m3 ?m4
  case m3 =>
   have e2 : ((2 : Int) ^ n) = (T : Int) := by rw [<- hT.out]; push_cast; rfl
   have h1 : IntKind.i64.wrap (2 ^ n) = (T : Int) := by rw [e2]; exact zi9 _ (by omega) (by omega)
   have h2 : IntKind.i64.wrap ((T : Int) - 1) = (T : Int) - 1 := zi9 _ (by omega) (by omega)
   have h3 : Go.bits BinOp.and IntKind.i64 (σ : Int) ((T : Int) - 1) = (r : Int) := by rw [zym9 σ n T hT.out hσ4 hn10, hr.out]
   have hE := E1.out.blw (W' := W'.drew) ((Below.refl _ _).drew)
   have hbl : bs.length <= 1125899906841900 := by have := HLB.out; omega
   have hput := put_ok b rv n (r : Int) bs W'.drew hE.wr hbl (by clear h1 h2 h3; omega) (by clear h1 h2 h3; omega) (by clear h1 h2 h3; rw [e2]; omega)
   refine reg12 l _ _ _ _ _ _ _ _ _ _ _ undef undef _ _ undef _ _ _ _ _ _ _ _ _ _ _ _ _ _ _ _ _ _ _ _ _ _ _ _ _ _ _ _ _ _ _ _ _ _ _ _ _ _ _ _ _ _ _ _ _ _ _ _ _ _ _ _ _ _ _ _ _ _ B10 B11 b n σ T r W' _ (fun ⟨_, _, h⟩ => by cases h.out.1) (fun c a w h => by cases h.out.1) hn10 h1 h2 h3 d10 d11 (hput.mono ?_)
   rintro e W2 ⟨rfl, rv2, h4⟩
   have hE2 := hE.put h4
   refine ⟨rfl, ⟨?_, ?_⟩, (show _ /\ _ /\ _ from ⟨rfl, rfl, rv2, hE2, ?_⟩)⟩
   ·rw [cell_of_row _ _ 0 _ _ (0, 0) hE2.b10]; rfl
   ·rw [cell_of_row _ _ 0 _ _ (0, 0) hE2.b11]; rfl
   ·exact ((Tch.of_below (S := fun k => k = b ∨ rv.ownBlock = some k) TB.out).drew).trans h4.tch (fun _ _ e => e)
  intro e a' W2 HH
  obtain ⟨rfl, rfl, rv2, h2, t2⟩ := HH.out
  clear HH
  have E2 : Hid (Es w W2 B3 B8 g9 B10 B11 Bs b (.slice (some ⟨sb, so, none⟩) s.length sc) (.slice da ds.length dc) s z rv2 σ (bs ++ bitsOf (r : Int) n)) := h2
  have TT : Hid (Tch (fun k => k = b ∨ rv.ownBlock = some k) W W2) := t2
  clear h2 t2 d11 d10 E1 TB
  gi_wp2_with fail
  refine wpIn_mono (Q := fun e a' W3 => Hid (e = .normal /\ KeepsFrom w5.heap.size W W3 /\ KB w.heap.size Bs W W3 /\ ∃ rv3, Es w W3 B3 B8 g9 B10 B11 Bs b (.slice (some ⟨sb, so, none⟩) s.length sc) (.slice da ds.length dc) s z rv3 (en (nn s) s.length z (symsOf (pre ++ [x]))).1 (en (nn s) s.length z (symsOf (pre ++ [x]))).2)) ?m5 ?m6
  case m5 =>
   have h1 : (σ : Int) / 2 ^ n = (X : Int) := by rw [<- hX.out]; push_cast; rfl
   have h3 : (X : Int) - (sh : Int) = (A : Int) := by rw [<- hA.out]; omega
   have h4 : IntKind.i64.wrap ((X : Int) - (sh : Int)) = (A : Int) := by rw [h3]; exact zi9 _ (by omega) (by omega)
   have h5 : IntKind.i64.wrap ((z : Int) + (P : Int)) = ((z + P : Nat) : Int) := by rw [zi9 _ (by omega) (by omega)]; push_cast; rfl
   have hfind := zsr9 g9 (nn s) s.length z k A W2.drew (E2.out.sp.below ((Below.refl _ _).drew)) hks hlen hcu
   rw [hP.out] at hfind
   refine reg13 l _ _ _ _ undef _ _ _ _ undef undef _ undef _ undef undef _ _ _ _ _ _ _ _ _ _ _ _ _ _ _ _ _ _ _ _ _ _ _ _ _ _ _ _ _ _ _ _ _ _ _ _ _ _ _ _ _ _ _ _ _ _ _ _ _ _ _ _ _ _ _ _ _ _ B3 B8 g9 B11 sb so s.length sc z k n σ sh X A P (z + P) W2 _ (fun ⟨_, _, h⟩ => by cases h.out.1) (fun c a w h => by cases h.out.1) hn10 hki0 hki1 h1 h4 h5 ⟨?c8, ?c3, HSC.out W2 E2.out.bel⟩ ?c11 (hfind.mono ?_) (frozen_of_row _ _ 0 _ _ E2.out.b11) (fun j => ?fin)
   case c8 => rw [cell_of_row _ _ 0 _ _ (0, 0) E2.out.b8]; rfl
   case c3 => rw [cell_of_row _ _ 0 _ _ (0, 0) E2.out.b3]; rfl
   case c11 => rw [cell_of_row _ _ 0 _ _ (0, 0) E2.out.b11]; rfl
   case fin =>
    have hbj : Below W2.heap.size W2 (W2.drewN j) := Below.of_drewN _ _ _
    have hE := (E2.out.blw hbj).state (z + P)
    have ht : Tch (fun k => (k = b ∨ rv.ownBlock = some k) ∨ k = B11) W ((W2.drewN j).setCell ⟨B11, 0, none⟩ (.int .i64 ((z + P : Nat) : Int))) := by
     have t1 := TT.out.mono (S' := fun k => (k = b ∨ rv.ownBlock = some k) ∨ k = B11) (fun _ _ e => .inl e)
     have t2 := t1.trans (Tch.of_below (S := fun k => (k = b ∨ rv.ownBlock = some k) ∨ k = B11) hbj) (fun _ _ e => e)
     exact Tch.setCell t2 (p := ⟨B11, 0, none⟩) (fun _ => .inr rfl) _
    obtain ⟨k1, k2⟩ := zvm9 w5.heap.size HE.out hE ht
    refine ⟨⟨?_, ?_, HSC.out _ hE.bel⟩, (show _ /\ _ /\ _ /\ _ from ⟨rfl, k1, k2, rv2, ?_⟩)⟩
    ·rw [cell_of_row _ _ 0 _ _ (0, 0) hE.b8]; rfl
    ·rw [cell_of_row _ _ 0 _ _ (0, 0) hE.b3]; rfl
    ·rw [HEN.out]; exact hE
   ·rintro e W4 ⟨rfl, j, rfl⟩
    exact ⟨rfl, j, rfl⟩
  intro e a' W3 HH
  obtain ⟨rfl, k1, k2, rv3, h3⟩ := HH.out
  exact ⟨k1, k2, rv3, h3⟩
end Go.Proofs.YtobenjkacpipeaaGreat
namespace Go.Proofs.YtobenjkacpipeaaGreat
open Go.RowKit Pl
theorem ztd9 {f : Nat -> Nat} {L lg : Nat} (h : Fok f L (2 ^ lg)) (hl : lg <= 9) {σ k : Nat} (h1 : 2 ^ lg <= σ) (h2 : σ < 2 * 2 ^ lg) (hk : k < L) (hf : 1 <= f k) :
  nxs f L (2 ^ lg) σ k - 2 ^ lg < 2 ^ lg /\ tb f L (2 ^ lg) (nxs f L (2 ^ lg) σ k - 2 ^ lg) = k /\ ah f L (2 ^ lg) k (nxs f L (2 ^ lg) σ k - 2 ^ lg) = σ / 2 ^ nb σ (f k) - f k ∧
   xs_ f L (2 ^ lg) (nxs f L (2 ^ lg) σ k - 2 ^ lg) = σ / 2 ^ nb σ (f k) /\ bt lg (σ / 2 ^ nb σ (f k)) = nb σ (f k) /\ 2 ^ lg <= σ / 2 ^ nb σ (f k) * 2 ^ nb σ (f k) := by
 have hz9 : 2 ^ lg <= 512 := by have : 2 ^ lg <= 2 ^ 9 := Nat.pow_le_pow_right (by decide) hl; omega
 have hσ : σ < 1024 := by omega
 have hfk : f k <= 2 ^ lg := by
  have h3 := zbj9 f (show k + 1 <= L from hk)
  have h4 := h.sum
  simp only [cu] at h3
  omega
 have hx := nb_x hf hσ h1 hfk
 have hs := zlp9 hf hσ
 obtain ⟨n, hn⟩ : ∃ n, nb σ (f k) = n := ⟨_, rfl⟩
 rw [hn] at hx hs ⊢
 obtain ⟨X, hX⟩ : ∃ X, σ / 2 ^ n = X := ⟨_, rfl⟩
 rw [hX] at hx ⊢
 obtain ⟨q, q1, q2, q3, q4⟩ := h.find hk (show X - f k < f k by omega)
 have e : nxs f L (2 ^ lg) σ k - 2 ^ lg = q := by unfold nxs; rw [hn, hX, q4]; omega
 rw [e]
 have hnl : n <= lg := by
  by_cases c : n <= lg
  ·exact c
  ·have h3 := hs.2.1 lg (by omega)
   have h4 : σ / 2 ^ lg < 2 := Nat.div_lt_of_lt_mul (by omega)
   omega
 have hge : 2 ^ lg <= X * 2 ^ n := by
  have e2 : 2 ^ lg = 2 ^ (lg - n) * 2 ^ n := by rw [<- Nat.pow_add]; congr 1; omega
  have h3 : 2 ^ (lg - n) <= X := by
   rw [<- hX, Nat.le_div_iff_mul_le (Nat.pow_pos (by decide)), <- e2]
   exact h1
  rw [e2]
  exact Nat.mul_le_mul_right _ h3
 have hle : X * 2 ^ n <= σ := by rw [<- hX]; exact Nat.div_mul_le_self _ _
 have hxx : xs_ f L (2 ^ lg) q = X := by unfold xs_; rw [q2, q3]; omega
 refine ⟨q1, q2, q3, hxx, ?_, hge⟩
 have hX1 : 1 <= X := by omega
 have hX2 : X < 2 * 2 ^ lg := by have : X <= σ := by rw [<- hX]; exact Nat.div_le_self _ _
                                 omega
 refine bt_eq hX1 hl hX2 hge (fun m hm => ?_)
 have h3 : 2 ^ m * 2 <= 2 ^ n := by rw [<- Nat.pow_succ]; exact Nat.pow_le_pow_right (by decide) hm
 have h4 : X * (2 ^ m * 2) <= X * 2 ^ n := Nat.mul_le_mul_left _ h3
 rw [<- Nat.mul_assoc] at h4
 omega
theorem zxo9 (f : Nat -> Nat) (L z lg : Nat) (ds : List Int) : Bits (eRow f L z lg ds) := Bits.append (zys9 f L z ds) (zan9 _ _)
theorem znf9 (sv dv : Value) (s ds : List Int) (log : Int) (w : World) (hr : Rd .i64 w sv s) (hd : Rd .i64 w dv ds) :
  Calls Tryz.prog 92 #[sv, .int .i64 log, dv] w fun e w' => EPostF (encR s log ds) w e w' := by
 by_cases hb : mayS s log = false ∨ 65536 < ds.length ∨ allS s ds = false
 ·exact zql9 sv dv s ds log w hr hd hb
 ·have hm : mayS s log = true := by cases e : mayS s log with | true => rfl | false => exact absurd (.inl e) hb
  have ha : allS s ds = true := by cases e : allS s ds with | true => rfl | false => exact absurd (.inr (.inr e)) hb
  have hl : ds.length <= 65536 := by by_cases e : 65536 < ds.length; (· exact absurd (.inr (.inl e)) hb); (· omega)
  obtain ⟨lg, rfl, _⟩ := Sok.of hm
  have e : encR s lg ds = (0, pack (eRow (nn s) s.length (2 ^ lg) lg ds ++ [1])) := by
   unfold encR
   rw [if_neg (by rw [hm]; simp), if_neg (by rw [ha]; simp; omega)]
   rfl
  rw [e]
  exact znd9 sv dv s ds lg w hr hd hm hl ha
end Go.Proofs.YtobenjkacpipeaaGreat
