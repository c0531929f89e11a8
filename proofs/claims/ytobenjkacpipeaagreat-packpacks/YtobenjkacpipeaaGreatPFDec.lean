import Derived.Test.YtobenjkacpipeaaGreatPFCod
import Derived.Test.YtobenjkacpipeaaGreatPTakeX
set_option maxRecDepth 100000
set_option linter.unusedVariables false
set_option linter.unusedSimpArgs false
set_option maxHeartbeats 8000000
namespace Go.Proofs.YtobenjkacpipeaaGreat
open Go.RowKit Pl
theorem zgd9 (b : Nat) (rv : Value) (ys : List Int) (p m : Nat) (w : World) (h : Bk w b rv ys p) (h32 : m <= 32) (hm : m <= p) :
  Calls Tryz.prog 160 #[.pointer (some ⟨b, 0, none⟩), .int .i64 m] w fun e w' =>
   e = .returned (.tuple #[.int .i64 (val (unpack ys) (p - m) m), .int .i64 0]) /\ Bk w' b rv ys (p - m) /\ Tch (fun k => k = b) w w' := by
 have hE : tkE p (m : Int) = 0 := by unfold tkE; rw [if_neg (by omega), if_neg (by omega)]
 have hN : tkN p (m : Int) = m := by unfold tkN; rw [if_neg (by omega), if_neg (by omega)]; rfl
 have hV : tkV (unpack ys) p (p - m) (m : Int) = val (unpack ys) (p - m) m := by unfold tkV; rw [if_neg (by omega), if_neg (by omega)]; rfl
 have := zei9 b rv ys p m w h
 rw [hE, hN, hV] at this
 exact this
theorem zdc9 (b : Nat) (rv : Value) (ys : List Int) (p m : Nat) (w : World) (h : Bk w b rv ys p) (h32 : m <= 32) (hm : p < m) :
  Calls Tryz.prog 160 #[.pointer (some ⟨b, 0, none⟩), .int .i64 m] w fun e w' =>
   e = .returned (.tuple #[.int .i64 0, .int .i64 3]) /\ Bk w' b rv ys p /\ Tch (fun k => k = b) w w' := by
 have hE : tkE p (m : Int) = 3 := by unfold tkE; rw [if_neg (by omega), if_pos (by omega)]
 have hN : tkN p (m : Int) = 0 := by unfold tkN; rw [if_neg (by omega), if_pos (by omega)]
 have hV : tkV (unpack ys) p p (m : Int) = 0 := by unfold tkV; rw [if_neg (by omega), if_pos (by omega)]
 have := zei9 b rv ys p m w h
 rw [hE, hN, Nat.sub_zero, hV] at this
 exact this
theorem zew9 (b : Nat) (rv : Value) (ys : List Int) (p : Nat) (w : World) (h : Bk w b rv ys p) :
  Calls Tryz.prog 154 #[.pointer (some ⟨b, 0, none⟩)] w fun e w' => e = .returned (.int .i64 p) /\ w' = w := by
 have c1 := h.c1
 clear h
 go_enter Tryz.func154, Tryz.ntmps154
 go_wp2
 go_ret
 exact ⟨rfl, rfl⟩
def dr (f : Nat -> Nat) (L z lg : Nat) (B : List Int) (p n : Nat) : Option (List Int × Nat) :=
 if p < lg then none else match dc f L z lg B (val B (p - lg) lg).toNat (p - lg) n with
  | none => none
  | some t => if t.2.1 = 0 then some (t.1, t.2.2) else none
structure Dw (w W : World) (b gt : Nat) (rv d : Value) (ys : List Int) (f : Nat -> Nat) (L z lg : Nat) (l : List Int) (p : Nat) : Prop where
 bk : Bk W b rv ys p
 tab : Iv W gt 179 1536 (t2 f L z lg z)
 own : Owns .i64 3 W d l
 tch : Tch (fun k => k = b) w W
 dn : ∀ k, d.ownBlock = some k -> w.heap.size <= k
 bl : b < w.heap.size
 gl : gt < w.heap.size
 rl : ∀ k, rv.ownBlock = some k -> k < w.heap.size
 ne : gt ≠ b
theorem Dw.took {w W W1 : World} {b gt : Nat} {rv d : Value} {ys : List Int} {f : Nat -> Nat} {L z lg : Nat} {l : List Int} {p q : Nat} {o : Obj} (h : Dw w W b gt rv d ys f L z lg l p)
  (ht : Tch (fun k => k = b) (W.alloc o) W1) (hb : Bk W1 b rv ys q) : Dw w W1 b gt rv d ys f L z lg l q := by
 have h0 : Below W.heap.size W (W.alloc o) := (Below.refl _ _).alloc (Nat.le_refl _) _
 have hbl := h.bl
 refine ⟨hb, (h.tab.below h0).tch ht h.ne, (h.own.below h0).tch ht (fun k hk e => by have := h.dn k hk; omega), (h.tch.alloc o).trans ht (fun _ _ e => e), h.dn, h.bl, h.gl, h.rl, h.ne⟩
theorem Dw.push {w W W1 : World} {b gt : Nat} {rv d d' : Value} {ys : List Int} {f : Nat -> Nat} {L z lg : Nat} {l l' : List Int} {p : Nat} (h : Dw w W b gt rv d ys f L z lg l p)
  (ho : Owns .i64 3 W1 d' l') (hg : Grew W W1 d d') : Dw w W1 b gt rv d' ys f L z lg l' p := by
 have hbl := h.bl
 have hgl := h.gl
 refine ⟨h.bk.tch hg.tch (fun e => by have := h.dn _ e; omega) (fun k hk e => by have := h.dn _ e; have := h.rl k hk; omega), h.tab.tch hg.tch (fun e => by have := h.dn _ e; omega), ho,
  h.tch.trans hg.tch (fun i hi e => by have := h.dn _ e; omega), fun k hk => ?_, h.bl, h.gl, h.rl, h.ne⟩
 rcases hg.fresh k hk with e | e
 ·exact h.dn k e
 ·have := h.tch.size; omega
def TPostF (b : Nat) (rv : Value) (ys : List Int) (f : Nat -> Nat) (L z lg p n : Nat) (w : World) (e : Ending) (w' : World) : Prop :=
 ∃ d E, e = .returned (.tuple #[d, .int .i64 E]) /\ Tch (fun k => k = b) w w' ∧
  ((E = 3 /\ d = .slice none 0 0 /\ dr f L z lg (unpack ys) p n = none) ∨
   (E = 0 /\ ∃ l q, dr f L z lg (unpack ys) p n = some (l, q) /\ Owns .i64 3 w' d l /\ (∀ k, d.ownBlock = some k -> w.heap.size <= k) /\ Bk w' b rv ys q))
set_option maxRecDepth 100000 in
theorem zfo9 (b gt : Nat) (rv : Value) (ys : List Int) (f : Nat -> Nat) (L z lg p n : Nat) (w : World) (hb : Bk w b rv ys p) (ht : Iv w gt 179 1536 (t2 f L z lg z)) (hne : gt ≠ b)
  (hf : Fok f L z) (hz : 2 ^ lg = z) (h5 : 5 <= lg) (h9 : lg <= 9) (hL : L <= 64) (hn : n <= 65536) :
  Calls Tryz.prog 153 #[.pointer (some ⟨b, 0, none⟩), .pointer (some ⟨gt, 0, none⟩), .int .i64 lg, .int .i64 n] w fun e w' => TPostF b rv ys f L z lg p n w e w' := by
 have HB : Hid (Bk w b rv ys p) := hb
 have HT : Hid (Iv w gt 179 1536 (t2 f L z lg z)) := ht
 have HF : Hid (Fok f L z) := hf
 have HZ : Hid (2 ^ lg = z) := hz
 have hz1 := hf.zok.pos
 have HNE : Hid (gt ≠ b) := hne
 clear hb ht hf hz hne
 by_cases hp : p < lg
 ·have HD : Hid (dr f L z lg (unpack ys) p n = none) := by show _ = _; unfold dr; rw [if_pos hp]
  go_enter Tryz.func153, Tryz.ntmps153
  go_wp2_with fail
  refine (zdc9 b rv ys p lg w HB.out (by omega) hp).mono ?_
  rintro e w1 ⟨rfl, _, ht1⟩
  have T1 : Hid (Tch (fun k => k = b) w w1) := ht1
  clear ht1
  go_wp2_with fail
  go_ret2
  exact ⟨_, 3, rfl, T1.out, .inl ⟨rfl, rfl, HD.out⟩⟩
 ·obtain ⟨a0, ha0⟩ : ∃ a0, Hid ((val (unpack ys) (p - lg) lg).toNat = a0) := ⟨_, rfl⟩
  have hv := val_bd (zt9 ys) (p - lg) lg
  have e2 : ((2 : Int) ^ lg) = (z : Int) := by rw [<- HZ.out]; push_cast; rfl
  rw [e2] at hv
  have HV : Hid (val (unpack ys) (p - lg) lg = (a0 : Int)) := by show _ = _; rw [<- ha0.out]; omega
  have ha1 : a0 < z := by rw [<- ha0.out]; omega
  have HD : Hid (dr f L z lg (unpack ys) p n = match dc f L z lg (unpack ys) a0 (p - lg) n with
    | none => none
    | some t => if t.2.1 = 0 then some (t.1, t.2.2) else none) := by show _ = _; unfold dr; rw [if_neg hp, ha0.out]
  clear hv e2
  obtain ⟨i0, hi, hz0, hz1', hz2⟩ := elem64.info
  go_enter Tryz.func153, Tryz.ntmps153
  go_wp2_with fail
  refine (zgd9 b rv ys p lg w HB.out (by omega) (by omega)).mono ?_
  rintro e w1 ⟨rfl, hb1, ht1⟩
  rw [HV.out]
  have B1 : Hid (Bk w1 b rv ys (p - lg)) := hb1
  have T1 : Hid (Tch (fun k => k = b) w w1) := ht1
  clear hb1 ht1
  go_wp2_with (at_make; refine wpList_make_own _ rfl (.const (.int .i64 0)) (.tmp 25) 56 rfl 0 3 i0 _ 1 Tryz.underlying56 hi hz0 hz1' .i64 .i64 _ n rfl rfl rfl (by rw [hz2]; omega) (by unfold maxLen; omega) (Nat.zero_le _) ?_)
  intro w4 ho4 hg4
  have D4 : Hid (Dw w w4 b gt rv (.slice (some ⟨w1.heap.size, 0, none⟩) 0 n) ys f L z lg [] (p - lg)) := by
   have b4 : Below w1.heap.size w1 w4 := (Below.refl _ _).grown hg4 (Nat.le_refl _) (fun k e => by cases e)
   refine ⟨B1.out.below b4, (HT.out.tch T1.out HNE.out).below b4, ho4, T1.out.trans (Tch.of_below (S := fun k => k = b) b4) (fun _ _ e => e), fun k hk => ?_, HB.out.lt, HT.out.lt, HB.out.own.lt, HNE.out⟩
   simp only [Value.ownBlock, Option.some.injEq] at hk
   have := T1.out.size
   omega
  clear ho4 hg4 B1 T1 hi hz0 hz1' hz2
  go_wp2_with fail
  go_loopw [10, 12, 28] (fun x d i wr => ∃ (k a q : Nat) (l : List Int), k <= n /\ i = .int .i64 k /\ x = .int .i64 a /\ a < z /\ Hid (dc f L z lg (unpack ys) a0 (p - lg) k = some (l, a, q)) /\ Hid (Dw w wr b gt rv d ys f L z lg l q)) (fun _ _ i _ => n - (intOf i).toNat)
  case atStart => exact ⟨0, a0, p - lg, [], Nat.zero_le _, rfl, rfl, ha1, rfl, D4⟩
  case round =>
   obtain ⟨k, a, q, l, hk, rfl, rfl, ha, HQ, D5⟩ := hrel
   clear D4
   by_cases hlt : k < n
   ·obtain ⟨s, hs⟩ : ∃ s, Hid (tb f L z a = s) := ⟨_, rfl⟩
    obtain ⟨X, hX⟩ : ∃ X, Hid (xs_ f L z a = X) := ⟨_, rfl⟩
    obtain ⟨m, hm⟩ : ∃ m, Hid (bt lg X = m) := ⟨_, rfl⟩
    obtain ⟨c, hc⟩ : ∃ c, Hid (X * 2 ^ m - z = c) := ⟨_, rfl⟩
    have hX1 := xs_bd HF.out ha
    rw [hX.out] at hX1
    have hbs := ziz9 (lg := lg) hX1.1 h9 (by rw [HZ.out]; exact hX1.2)
    rw [hm.out, HZ.out, Nat.add_mul] at hbs
    have hm9 : m <= 9 := by omega
    have HBS : Hid (z <= X * 2 ^ m /\ X * 2 ^ m + 2 ^ m <= 2 * z) := by show _ /\ _; omega
    have hc1 : c <= 512 := by rw [<- hc.out]; omega
    have t0 : wr.cell? ⟨gt, a * 3, none⟩ = some (.int .i64 (s : Int)) := by rw [D5.out.tab.at_ (a * 3) (by omega), t2_sym _ _ _ _ _ _ ha, hs.out]
    have t1 : wr.cell? ⟨gt, a * 3 + 1, none⟩ = some (.int .i64 (m : Int)) := by rw [D5.out.tab.at_ (a * 3 + 1) (by omega), zaad9 _ _ _ _ _ ha, hX.out, hm.out]
    have t3 : wr.cell? ⟨gt, a * 3 + 2, none⟩ = some (.int .i64 (c : Int)) := by rw [D5.out.tab.at_ (a * 3 + 2) (by omega), zzo9 _ _ _ _ _ ha, hX.out, hm.out, hc.out]
    have hs64 : s <= 64 := by rw [<- hs.out]; have := HF.out.tb_lt a; omega
    have hi0 : (0 : Int) <= (a : Int) := by omega
    have hi1 : (a : Int) < 512 := by omega
    have hi2 : (a : Int) <= 511 := by omega
    have hll : l.length = k := by
     have := HQ.out
     rw [<- HZ.out] at this
     exact (dc_lt (by rw [HZ.out]; exact HF.out) h9 (zt9 ys) (by rw [HZ.out]; exact ha1) this).2.2
    have HLL : Hid (l.length = k) := hll
    have hgl : gt < wr.heap.size := D5.out.tab.lt
    clear hX1 hbs hll
    by_cases hq : q < m
    ·have HN : Hid (dc f L z lg (unpack ys) a0 (p - lg) (k + 1) = none) := by
      show _ = _
      simp only [dc, HQ.out]
      rw [hX.out, hm.out, if_pos hq]
     go_wp2_with fail
     have h0 : Below wr.heap.size wr (wr.alloc (.cells #[.int .i64 (s : Int), .int .i64 (m : Int), .int .i64 (c : Int)] 177)) := (Below.refl _ _).alloc (Nat.le_refl _) _
     refine (zdc9 b rv ys q m _ (D5.out.bk.below h0) (by omega) hq).mono ?_
     rintro e w6 ⟨rfl, hb6, ht6⟩
     have D6 : Hid (Dw w w6 b gt rv u12 ys f L z lg l q) := D5.out.took ht6 hb6
     clear hb6 ht6 h0 D5
     go_wp2_with fail
     go_ret2
     refine ⟨_, 3, rfl, D6.out.tch, .inl ⟨rfl, rfl, ?_⟩⟩
     rw [HD.out]
     have hnone : ∀ j, k + 1 <= j -> dc f L z lg (unpack ys) a0 (p - lg) j = none := by
      intro j hj
      induction j with
      | zero => omega
      | succ j ih =>
       by_cases e : k = j
       ·subst e; exact HN.out
       ·simp only [dc]; rw [ih (by omega)]
     rw [hnone n (by omega)]
    ·obtain ⟨v, hv⟩ : ∃ v, Hid ((val (unpack ys) (q - m) m).toNat = v) := ⟨_, rfl⟩
     have hvb := val_bd (zt9 ys) (q - m) m
     have e2 : ((2 : Int) ^ m) = ((2 ^ m : Nat) : Int) := by push_cast; rfl
     rw [e2] at hvb
     have HV2 : Hid (val (unpack ys) (q - m) m = (v : Int)) := by show _ = _; rw [<- hv.out]; omega
     have hav : c + v < z := by have := HBS.out; rw [<- hv.out, <- hc.out]; omega
     have HQ2 : Hid (dc f L z lg (unpack ys) a0 (p - lg) (k + 1) = some (l ++ [(s : Int)], c + v, q - m)) := by
      show _ = _
      simp only [dc, HQ.out]
      rw [hX.out, hm.out, if_neg hq, hs.out, hc.out, hv.out]
     clear hvb e2 HBS
     go_wp2_with fail
     have h0 : Below wr.heap.size wr (wr.alloc (.cells #[.int .i64 (s : Int), .int .i64 (m : Int), .int .i64 (c : Int)] 177)) := (Below.refl _ _).alloc (Nat.le_refl _) _
     refine (zgd9 b rv ys q m _ (D5.out.bk.below h0) (by omega) (by omega)).mono ?_
     rintro e w6 ⟨rfl, hb6, ht6⟩
     rw [HV2.out]
     have D6 : Hid (Dw w w6 b gt rv u12 ys f L z lg l (q - m)) := D5.out.took ht6 hb6
     have hbne : wr.heap.size ≠ b := by have h1 := D5.out.bl; have h2 := D5.out.tch.size; omega
     have hcell : ∀ j, w6.cell? ⟨wr.heap.size, j, none⟩ = (wr.alloc (.cells #[.int .i64 (s : Int), .int .i64 (m : Int), .int .i64 (c : Int)] 177)).cell? ⟨wr.heap.size, j, none⟩ := fun j =>
      ht6.cell (p := ⟨wr.heap.size, j, none⟩) (by simp) hbne
     have hnew := heap_alloc_new wr (.cells #[.int .i64 (s : Int), .int .i64 (m : Int), .int .i64 (c : Int)] 177)
     have p0 : w6.cell? ⟨wr.heap.size, 0, none⟩ = some (.int .i64 (s : Int)) := by rw [hcell, cell_of_row _ _ 0 _ _ (0, 0) hnew]; rfl
     have p2 : w6.cell? ⟨wr.heap.size, 2, none⟩ = some (.int .i64 (c : Int)) := by rw [hcell, cell_of_row _ _ 2 _ _ (0, 0) hnew]; rfl
     have hlt6 : wr.heap.size < w6.heap.size := by have := ht6.size; simp at this; omega
     obtain ⟨g, hg⟩ : ∃ g, wr.heap.size = g := ⟨_, rfl⟩
     rw [hg] at p0 p2 hlt6 ⊢
     have HG : Hid (w.heap.size <= g) := by show _ <= _; rw [<- hg]; exact D5.out.tch.size
     have HGW : Hid (∀ k, u12.ownBlock = some k -> k ≠ g) := fun k hk e => by have := D5.out.own.lt k hk; omega
     clear hb6 ht6 h0 D5 hcell hnew hbne hg t0 t1 t3 hgl
     go_wp2_with (at_builtin; refine zd9 _ rfl (.tmp 45) (.tmp 48) 56 rfl 3 .i64 8 elem64 _ l rfl D6.out.own (s : Int) rfl (by have := HLL.out; omega) (by have := HLL.out; omega) ?_)
     intro d7 w7 ho7 hg7
     have D7 : Hid (Dw w w7 b gt rv d7 ys f L z lg (l ++ [(s : Int)]) (q - m)) := D6.out.push ho7 hg7
     have p3 : w7.cell? ⟨g, 2, none⟩ = some (.int .i64 (c : Int)) := by
      rw [hg7.tch.cell (p := ⟨g, 2, none⟩) hlt6 (fun e => HGW.out g e rfl)]; exact p2
     clear ho7 hg7 D6 p0 p2
     go_wp2_with fail
     go_roundw
     case rel => exact ⟨k + 1, c + v, q - m, l ++ [(s : Int)], by omega, by go_num, by go_num, hav, HQ2, D7⟩
     case measure => simp [intOf]; omega
   ·obtain rfl : k = n := by omega
    by_cases haz : a = 0
    ·have hae : ((a : Int) != 0) = false := by simp [haz]
     have HE : Hid (dr f L z lg (unpack ys) p k = some (l, q)) := by show _ = _; rw [HD.out, HQ.out]; simp [haz]
     clear haz
     go_wp2_with fail
     go_ret2
     exact ⟨u12, 0, rfl, D5.out.tch, .inr ⟨rfl, l, q, HE.out, D5.out.own, D5.out.dn, D5.out.bk⟩⟩
    ·have hae : ((a : Int) != 0) = true := by simp; omega
     have HE : Hid (dr f L z lg (unpack ys) p k = none) := by show _ = _; rw [HD.out, HQ.out]; simp [haz]
     clear haz
     go_wp2_with fail
     go_ret2
     exact ⟨_, 3, rfl, D5.out.tch, .inl ⟨rfl, rfl, HE.out⟩⟩
def drE : Option (List Int × Nat) -> Int × List Int
 | none => (3, [])
 | some t => if 0 < t.2 then (3, []) else (0, t.1)
def decR (s : List Int) (log : Int) (ys : List Int) (n : Int) : Int × List Int :=
 if mayS s log = false then (4, []) else if n < 0 ∨ 65536 < n then (1, []) else if 0 < ys.length /\ ys.getD (ys.length - 1) 0 ≠ 0 then
  drE (dr (nn s) s.length (2 ^ log.toNat) log.toNat (unpack ys) (markAt ys) n.toNat)
 else (3, [])
def DPostF (r : Int × List Int) (w : World) (e : Ending) (w' : World) : Prop :=
 ∃ d, e = .returned (.tuple #[d, .int .i64 r.1]) /\ Below w.heap.size w w' /\ (∀ k, d.ownBlock = some k -> w.heap.size <= k) /\ Owns .i64 3 w' d r.2
theorem DPostF.bad {E : Int} {w w' : World} (hb : Below w.heap.size w w') : DPostF (E, []) w (.returned (.tuple #[.slice none 0 0, .int .i64 E])) w' :=
 ⟨_, rfl, hb, (fun k e => by cases e), zf9 _ _ _⟩
set_option maxRecDepth 100000 in
theorem zna9 (sv dv : Value) (s ys : List Int) (log n : Int) (w : World) (hr : Rd .i64 w sv s) (hd : Rd .u8 w dv ys) (hy : By ys) (hl : ys.length <= 140737488355328) :
  Calls Tryz.prog 133 #[sv, .int .i64 log, dv, .int .i64 n] w fun e w' => DPostF (decR s log ys n) w e w' := by
 have HR : Hid (Rd .i64 w sv s) := hr
 have HD : Hid (Rd .u8 w dv ys) := hd
 have HY : Hid (By ys) := hy
 obtain ⟨hvT, hiT⟩ := zero_of_info zhe9
 have HIT : Hid ((Tryz.prog.info? 179).map (·.size) = some 1536) := hiT
 obtain ⟨ZT, hZT⟩ : ∃ Z, Hid ((ics 1536 (fun _ => 0)).toArray = Z) := ⟨_, rfl⟩
 rw [hZT.out] at hvT
 have HVT : Hid (∀ (w : World), Sem.run Tryz.prog (zeroValue 179) w = Result.ok (Value.agg ZT) w) := hvT
 have HZTL : Hid (ZT.size = 1536) := by show _ = _; rw [<- hZT.out, zcs9]
 clear hr hd hy hvT hiT
 obtain ⟨R, hR⟩ : ∃ R, Hid (decR s log ys n = R) := ⟨_, rfl⟩
 rw [hR.out]
 cases hm : mayS s log with
 | false =>
  have HM : Hid (mayS s log = false) := hm
  have HE : Hid (R = (4, [])) := by show R = _; rw [<- hR.out]; unfold decR; rw [if_pos hm]
  clear hm
  go_enter Tryz.func133, Tryz.ntmps133
  go_wp2_with fail
  refine (zau9 sv s log w HR.out).mono ?_
  rintro e w1 ⟨rfl, rfl⟩
  rw [HM.out]
  go_wp2_with fail
  go_ret2
  rw [HE.out]
  exact DPostF.bad (Below.refl _ _)
 | true =>
  have HM : Hid (mayS s log = true) := hm
  obtain ⟨lg, rfl, hk⟩ := Sok.of hm
  have HK : Hid (Sok s lg) := hk
  have hl5 := hk.lo
  have hl9 := hk.hi
  have hmf : ¬ mayS s lg = false := by rw [hm]; simp
  clear hm hk
  by_cases hn : n < 0 ∨ 65536 < n
  ·have HE : Hid (R = (1, [])) := by show R = _; rw [<- hR.out]; unfold decR; rw [if_neg hmf, if_pos hn]
   clear hmf
   rcases hn with hn | hn
   all_goals
    go_enter Tryz.func133, Tryz.ntmps133
    go_wp2_with fail
    refine (zau9 sv s lg w HR.out).mono ?_
    rintro e w1 ⟨rfl, rfl⟩
    rw [HM.out]
    go_wp2_with fail
    go_ret2
    rw [HE.out]
    exact DPostF.bad (Below.refl _ _)
  ·obtain ⟨m, rfl⟩ := Int.eq_ofNat_of_zero_le (show 0 <= n by omega)
   have hm1 : m <= 65536 := by omega
   have hg1 : decide ((m : Int) < 0) = false := by rw [decide_eq_false_iff_not]; omega
   have hg2 : decide ((65536 : Int) < (m : Int)) = false := by rw [decide_eq_false_iff_not]; omega
   have HRR : Hid (R = if 0 < ys.length /\ ys.getD (ys.length - 1) 0 ≠ 0 then
     drE (dr (nn s) s.length (2 ^ lg) lg (unpack ys) (markAt ys) m)
    else (3, [])) := by
    show R = _
    rw [<- hR.out]; unfold decR; rw [if_neg hmf, if_neg hn]; rfl
   clear hn hmf
   go_enter Tryz.func133, Tryz.ntmps133
   go_wp2_with fail
   refine (zau9 sv s lg w HR.out).mono ?_
   rintro e w1 ⟨rfl, rfl⟩
   rw [HM.out]
   go_wp2_with fail
   refine (zpl9 dv ys w1 HD.out HY.out hl).mono ?_
   rintro e w2 (⟨hmk, b, rv, rfl, hb2, hB2, hbn, hrn⟩ | ⟨hmk, rfl, rfl⟩)
   ·have B2 : Hid (Bk w2 b rv ys (markAt ys)) := hb2
    have L2 : Hid (Below w1.heap.size w1 w2) := hB2
    have BN : Hid (w1.heap.size <= b) := hbn
    obtain ⟨Q, hQ⟩ : ∃ Q, Hid (dr (nn s) s.length (2 ^ lg) lg (unpack ys) (markAt ys) m = Q) := ⟨_, rfl⟩
    have HE : Hid (R = drE Q) := by show R = _; unfold zgb9 at hmk; rw [HRR.out, if_pos hmk, hQ.out]
    clear hb2 hB2 hbn hrn hmk HRR
    obtain ⟨z, hz⟩ : ∃ z : Nat, Hid (2 ^ lg = z) := ⟨_, rfl⟩
    rw [hz.out] at hQ
    go_wp2_with fail
    refine (zmw9 sv s lg z w2 (HR.out.below L2.out) HK.out hz.out).mono ?_
    rintro e w3 ⟨rfl, hb3⟩
    obtain ⟨FT, hFT⟩ : ∃ FT, Hid (ics 1536 (t2 (nn s) s.length z lg z) = FT) := ⟨_, rfl⟩
    have HTS : Hid (FT.toArray.size = 1536) := by show _ = _; rw [List.size_toArray, <- hFT.out, zp9]
    have HTO : Hid (FT.toArray.all (·.oneCell') = true) := by show _ = _; rw [<- hFT.out]; exact zdv9 _ _
    rw [hFT.out]
    have L3 : Hid (Below w2.heap.size w2 w3) := hb3
    clear hb3
    have hvT := HVT.out
    go_wp2_with (refine zl9 w3 rfl 179 (.tmp 12) (.tmp 34) rfl ZT FT.toArray rfl rfl (by rw [HTS.out]; exact HIT.out) (by rw [HTS.out, HZTL.out]) HTO.out ?_)
    clear hvT
    have TV : Hid (Iv (w3.alloc (.cells FT.toArray 179)) w3.heap.size 179 1536 (t2 (nn s) s.length z lg z)) := by
     have h := iv_new w3 179 1536 (t2 (nn s) s.length z lg z)
     rw [hFT.out] at h
     exact h
    have h34 : Below w3.heap.size w3 (w3.alloc (.cells FT.toArray 179)) := (Below.refl _ _).alloc (Nat.le_refl _) _
    have B4 : Hid (Bk (w3.alloc (.cells FT.toArray 179)) b rv ys (markAt ys)) := (B2.out.below L3.out).below h34
    have L4 : Hid (Below w1.heap.size w1 (w3.alloc (.cells FT.toArray 179))) := by
     have h1 := L2.out.trans (L3.out.mono L2.out.size)
     exact h1.alloc h1.size _
    have hne : w3.heap.size ≠ b := by have h1 := B2.out.lt; have h2 := L3.out.size; omega
    have HF : Hid (Fok (nn s) s.length z) := by show Fok _ _ _; rw [<- hz.out]; exact HK.out.fok
    obtain ⟨p, hp⟩ : ∃ p, Hid (markAt ys = p) := ⟨_, rfl⟩
    rw [hp.out] at B4 hQ
    clear h34
    refine (zfo9 b w3.heap.size rv ys (nn s) s.length z lg p m _ B4.out TV.out hne HF.out hz.out hl5 hl9 HK.out.len hm1).mono ?_
    rintro e w5 ⟨d, E, rfl, ht5, hcase⟩
    rw [hQ.out] at hcase
    have L5 : Hid (Below w1.heap.size w1 w5) := L4.out.trans (ht5.below L4.out.size (fun k e => by rw [e]; exact BN.out))
    rcases hcase with ⟨rfl, rfl, hq⟩ | ⟨rfl, l, q, hq, ho5, hd5, hb5⟩
    ·have HE2 : Hid (R = (3, [])) := by show R = _; rw [HE.out, hq]; rfl
     clear ht5 hq
     go_wp2_with fail
     go_ret2
     rw [HE2.out]
     exact DPostF.bad L5.out
    ·have B5 : Hid (Bk w5 b rv ys q) := hb5
     have O5 : Hid (Owns .i64 3 w5 d l) := ho5
     have D5 : Hid (∀ k, d.ownBlock = some k -> w1.heap.size <= k) := fun k hk => Nat.le_trans L4.out.size (hd5 k hk)
     have HE2 : Hid (R = if 0 < q then (3, []) else (0, l)) := by show R = _; rw [HE.out, hq]; rfl
     obtain ⟨da, dc, hdv⟩ : ∃ da dc, d = .slice da l.length dc := by obtain ⟨a, c, e, _⟩ := ho5.rd; exact ⟨a, c, e⟩
     subst hdv
     clear ht5 hq hb5 ho5 hd5
     by_cases hq0 : 0 < q
     ·have hq1 : (0 : Int) < (q : Int) := by omega
      go_wp2_with fail
      refine (zew9 b rv ys q w5 B5.out).mono ?_
      rintro e w6 ⟨rfl, rfl⟩
      go_wp2_with fail
      go_ret2
      rw [HE2.out, if_pos hq0]
      exact DPostF.bad L5.out
     ·obtain rfl : q = 0 := by omega
      go_wp2_with fail
      refine (zew9 b rv ys 0 w5 B5.out).mono ?_
      rintro e w6 ⟨rfl, rfl⟩
      go_wp2_with fail
      go_ret2
      rw [HE2.out, if_neg hq0]
      exact ⟨_, rfl, L5.out, D5.out, O5.out⟩
   ·have HE : Hid (R = (3, [])) := by show R = _; unfold zgb9 at hmk; rw [HRR.out, if_neg hmk]
    clear hmk
    go_wp2_with fail
    go_ret2
    rw [HE.out]
    exact DPostF.bad (Below.refl _ _)
end Go.Proofs.YtobenjkacpipeaaGreat
