import Derived.Test.YtobenjkacpipeaaGreatPPkSrc
import Derived.Test.YtobenjkacpipeaaGreatPFArr
import Derived.Test.YtobenjkacpipeaaGreatPMCut
import Derived.Deep.RegionHeld3
import Derived.StillTailTactics
import Derived.Test.YtobenjkacpipeaaGreatPFEnc2
set_option maxRecDepth 100000
set_option linter.unusedVariables false
set_option linter.unusedSimpArgs false
set_option maxHeartbeats 8000000
namespace Go.Proofs.YtobenjkacpipeaaGreat
open Go.RowKit Pl Go.Maps Go.WideMaps Hf
def tkB (ys : List Int) (c : Int) (p : Nat) : Int := if p + rbs c <= 8 * ys.length then val (unpack ys) p (rbs c) else 0
def tkX (ys : List Int) (c : Int) (p : Nat) : Int := if p + rbs c <= 8 * ys.length then 0 else 3
def tkQ (ys : List Int) (c : Int) (p : Nat) : Nat := if p + rbs c <= 8 * ys.length then p + rbs c else p
def numV (ys : List Int) (c : Int) (p : Nat) : Int := if 0 < c then tkB ys c p + 2 ^ rbs c else tkB ys c p
def stq (ys : List Int) (cs : Nat -> Int) (p : Nat) : Nat -> Nat × Bool
 | 0 => (p, true)
 | k + 1 => (tkQ ys (cs k) (stq ys cs p k).1, (stq ys cs p k).2 && (tkX ys (cs k) (stq ys cs p k).1 == 0))
def stv (ys : List Int) (cs : Nat -> Int) (p k : Nat) : Int := numV ys (cs k) (stq ys cs p k).1
theorem zjb9 (σ : Option (List Int)) (a b : Bool) : askS (askS σ a) b = askS σ (a && b) := by cases a <;> cases b <;> rfl
theorem zabb9 (b : Nat) (rv : Value) (ys : List Int) (p : Nat) (c : Int) (w : World) (h : Rr w b rv ys p) (hc : c <= 16) :
  Calls Tryz.prog 134 #[.pointer (some ⟨b, 0, none⟩), .int .i64 (rbs c : Int)] w fun e w' =>
   e = .returned (.tuple #[.int .i64 (tkB ys c p), .int .i64 (tkX ys c p)]) /\ Rr w' b rv ys (tkQ ys c p) /\ Tch (fun k => k = b) w w' := by
 have h15 : rbs c <= 15 := by unfold rbs; omega
 unfold tkB tkX tkQ
 by_cases hf : p + rbs c <= 8 * ys.length
 ·rw [if_pos hf, if_pos hf, if_pos hf]
  exact zge9 b rv ys p (rbs c) w h (by omega) hf
 ·rw [if_neg hf, if_neg hf, if_neg hf]
  exact zmd9 b rv ys p (rbs c) w h (by omega) (by omega)
theorem tkB_bd (ys : List Int) (c : Int) (p : Nat) (hc : c <= 16) : 0 <= tkB ys c p /\ tkB ys c p <= 32767 := by
 have h15 : rbs c <= 15 := by unfold rbs; omega
 unfold tkB
 split
 ·have h1 := val_bd (zt9 ys) p (rbs c)
  have h2 : (2 : Int) ^ rbs c <= 2 ^ 15 := zs9 h15
  have e : (2 : Int) ^ 15 = 32768 := by decide
  omega
 ·omega
theorem zpr9 (w : World) (C : Array Value) (n : Nat) (v : Value) (hn : n < 3) (hv : C[n]? = some v) : (Instr.index 125 (.agg C) (.int .i64 (n : Int))).run Tryz.prog w = .ok v w := by
 have hu : Tryz.prog.underlying 125 = some (.array 3 56) := Tryz.underlying125
 have hs : (Tryz.prog.info? 56).map (·.size) = some 1 := by kernel_rfl
 obtain ⟨i, hi, hsz⟩ := Option.map_eq_some_iff.1 hs
 have hsi : (sizeOf 56).run Tryz.prog w = .ok 1 w := by simp [sizeOf, typeInfo, hi, hsz]
 have hag : (isAgg 56).run Tryz.prog w = .ok false w := by
  unfold isAgg
  rw [Sem.run_bind, run_underlying Tryz.underlying56 w]
  rfl
 have hc : (0 : Int) <= (n : Int) /\ (n : Int) < ((3 : Nat) : Int) := ⟨by omega, by omega⟩
 simp only [Instr.index, asIntOf, Sem.run_bind, Sem.run_pure, Result.andThen_ok, run_underlying hu w, if_pos hc, hsi, part, hag, Int.toNat_natCast, Nat.mul_one, hv]
 rfl
theorem zie9 (w : World) {ops : Array Oper} {rest : List Oper} {o : Oper} {a : Act} {Q : Exit -> Act -> World -> Prop} (hgd : o.guard = none) (x i : Operand)
  (ho : o.op = .index 125 x i) (C : Array Value) (n : Nat) (v : Value) (hx : a.eval x = .agg C) (hi : a.eval i = .int .i64 (n : Int)) (hn : n < 3) (hv : C[n]? = some v)
  (h : wpList Tryz.prog ops Q rest (a.put o.dst v) w) : wpList Tryz.prog ops Q (o :: rest) a w := by
 refine wpList_plain hgd fun K hK => ?_
 have hrun := zpr9 w C n v hn hv
 unfold Oper.wp execOp
 simp only [ho, hx, hi, Sem.run_bind, hrun, Result.andThen_ok, Sem.run_pure]
 exact hK _ _ h
structure Ss (n0 : Nat) (w W : World) (g rb B8 B9 : Nat) (rv : Value) (ys : List Int) (σ : Option (List Int)) (q : Nat × Bool) (c : Nat -> Int) : Prop where
 so : SoX n0 W g (askS σ q.2)
 rr : Rr W rb rv ys q.1
 iv : Iv W B9 168 3 c
 b8 : W.heap[B8]? = some (.cells #[.int .i64 0, .int .i64 0, .int .i64 0] 55 (0, 0))
 tch : Tch (fun j => j = g ∨ j = rb) w W
 n8 : w.heap.size <= B8
 n9 : w.heap.size <= B9
 ne : B8 ≠ B9
 gl : g < w.heap.size
 rl : rb < w.heap.size
 gr : g ≠ rb
 nr : n0 <= rb
 vg : rv.ownBlock ≠ some g
 vl : ∀ k, rv.ownBlock = some k -> k < w.heap.size
 wn : n0 <= w.heap.size
section
variable {n0 : Nat} {w W W' : World} {g rb B8 B9 : Nat} {rv : Value} {ys : List Int} {σ : Option (List Int)} {q : Nat × Bool} {c : Nat -> Int}
theorem Ss.took (h : Ss n0 w W g rb B8 B9 rv ys σ q c) {q' : Nat} (hr : Rr W' rb rv ys q') (ht : Tch (fun k => k = rb) W W') : Ss n0 w W' g rb B8 B9 rv ys σ (q', q.2) c := by
 have h8 := (Array.getElem?_eq_some_iff.1 h.b8).1
 refine ⟨h.so.tch ht (fun e => h.gr e) (fun k e => by rw [e]; exact h.nr), hr, h.iv.tch ht (fun e => by have := h.rl; have := h.n9; omega), ?_, h.tch.trans ht (fun _ _ e => .inr e), h.n8, h.n9, h.ne, h.gl, h.rl, h.gr, h.nr, h.vg, h.vl, h.wn⟩
 rw [ht.block B8 h8 (fun e => by have := h.rl; have := h.n8; omega)]
 exact h.b8
theorem Ss.asked (h : Ss n0 w W g rb B8 B9 rv ys σ q c) {b : Bool} (hs : SoX n0 W' g (askS (askS σ q.2) b)) (ht : Tch (fun k => k = g) W W') : Ss n0 w W' g rb B8 B9 rv ys σ (q.1, q.2 && b) c := by
 have h8 := (Array.getElem?_eq_some_iff.1 h.b8).1
 rw [zjb9] at hs
 refine ⟨hs, h.rr.tch ht (fun e => h.gr e.symm) (fun k hk e => h.vg (by rw [hk, e])), h.iv.tch ht (fun e => by have := h.gl; have := h.n9; omega), ?_, h.tch.trans ht (fun _ _ e => .inl e), h.n8, h.n9, h.ne, h.gl, h.rl, h.gr, h.nr, h.vg, h.vl, h.wn⟩
 rw [ht.block B8 h8 (fun e => by have := h.gl; have := h.n8; omega)]
 exact h.b8
theorem Ss.set (h : Ss n0 w W g rb B8 B9 rv ys σ q c) (i : Nat) (hi : i < 3) (v : Int) : Ss n0 w (W.setCell ⟨B9, i, none⟩ (.int .i64 v)) g rb B8 B9 rv ys σ q (upd c i v) := by
 have ht : Tch (fun k => k = B9) W (W.setCell ⟨B9, i, none⟩ (.int .i64 v)) := (Tch.refl (fun k => k = B9) W).setCell (p := ⟨B9, i, none⟩) (fun _ => rfl) _
 have h8 := (Array.getElem?_eq_some_iff.1 h.b8).1
 have n9 := h.n9
 have gl := h.gl
 have rl := h.rl
 have wn := h.wn
 refine ⟨h.so.tch ht (fun e => by omega) (fun k e => by omega), h.rr.tch ht (fun e => by omega) (fun k hk e => by have := h.vl k hk; omega), h.iv.set i hi v, ?_, h.tch.trans ht (fun _ _ e => by omega), h.n8, h.n9, h.ne, h.gl, h.rl, h.gr, h.nr, h.vg, h.vl, h.wn⟩
 rw [ht.block B8 h8 (fun e => h.ne e)]
 exact h.b8
theorem Ss.blw (h : Ss n0 w W g rb B8 B9 rv ys σ q c) (hb : Below W.heap.size W W') : Ss n0 w W' g rb B8 B9 rv ys σ q c := by
 have h8 := (Array.getElem?_eq_some_iff.1 h.b8).1
 refine ⟨h.so.below hb, h.rr.below hb, h.iv.below hb, ?_, h.tch.trans (Tch.of_below (S := fun _ => False) hb) (fun _ _ e => e.elim), h.n8, h.n9, h.ne, h.gl, h.rl, h.gr, h.nr, h.vg, h.vl, h.wn⟩
 rw [hb.block B8 h8]
 exact h.b8
theorem Ss.congr (h : Ss n0 w W g rb B8 B9 rv ys σ q c) {d : Nat -> Int} (e : ∀ i, i < 3 -> c i = d i) : Ss n0 w W g rb B8 B9 rv ys σ q d :=
 ⟨h.so, h.rr, h.iv.congr e, h.b8, h.tch, h.n8, h.n9, h.ne, h.gl, h.rl, h.gr, h.nr, h.vg, h.vl, h.wn⟩
end
theorem zjl9 (n0 g rb : Nat) (σ : Option (List Int)) (rv : Value) (ys : List Int) (p at_ : Nat) (cs : Nat -> Int) (sb so_ sn sc : Nat -> Nat) (w : World)
  (hs : SoX n0 w g σ) (hr : Rr w rb rv ys p) (hgr : g ≠ rb) (hnr : n0 <= rb) (hvg : rv.ownBlock ≠ some g) (hwn : n0 <= w.heap.size)
  (hc : ∀ i, i < 3 -> w.cell? ⟨sb i, so_ i + at_, none⟩ = some (.int .i64 (cs i))) (hat : ∀ i, i < 3 -> at_ < sn i) (hcs : ∀ i, i < 3 -> 0 <= cs i /\ cs i <= 16) (hsb : ∀ i, i < 3 -> sb i ≠ g /\ sb i ≠ rb) :
  Calls Tryz.prog 105 #[.pointer (some ⟨g, 0, none⟩), .pointer (some ⟨rb, 0, none⟩), .agg #[.slice (some ⟨sb 0, so_ 0, none⟩) (sn 0) (sc 0), .slice (some ⟨sb 1, so_ 1, none⟩) (sn 1) (sc 1), .slice (some ⟨sb 2, so_ 2, none⟩) (sn 2) (sc 2)], .int .i64 (at_ : Int)] w fun e w' =>
   e = .returned (.agg #[.int .i64 (stv ys cs p 0), .int .i64 (stv ys cs p 1 + 4), .int .i64 (stv ys cs p 2 + 1)]) /\ SoX n0 w' g (askS σ (stq ys cs p 3).2) /\ Rr w' rb rv ys (stq ys cs p 3).1 /\ Tch (fun k => k = g ∨ k = rb) w w' := by
 have HC : Hid (∀ i, i < 3 -> w.cell? ⟨sb i, so_ i + at_, none⟩ = some (.int .i64 (cs i))) := hc
 have HAT : Hid (∀ i, i < 3 -> at_ < sn i) := hat
 have HCS : Hid (∀ i, i < 3 -> 0 <= cs i /\ cs i <= 16) := hcs
 have HSB : Hid (∀ i, i < 3 -> sb i ≠ g /\ sb i ≠ rb) := hsb
 have H0 : Hid (SoX n0 w g σ /\ Rr w rb rv ys p /\ g ≠ rb /\ n0 <= rb /\ rv.ownBlock ≠ some g /\ n0 <= w.heap.size) := ⟨hs, hr, hgr, hnr, hvg, hwn⟩
 clear hs hr hgr hnr hvg hwn hc hat hcs hsb
 go_enter Tryz.func105, Tryz.ntmps105
 go_wp2_with fail
 obtain ⟨W0, hW0⟩ : ∃ W0, Hid (((w.alloc (.cells #[.slice (some ⟨sb 0, so_ 0, none⟩) (sn 0) (sc 0), .slice (some ⟨sb 1, so_ 1, none⟩) (sn 1) (sc 1), .slice (some ⟨sb 2, so_ 2, none⟩) (sn 2) (sc 2)] 125)).alloc (.cells #[.int .i64 0, .int .i64 0, .int .i64 0] 55)).alloc (.cells #[.int .i64 0, .int .i64 0, .int .i64 0] 168) = W0) := ⟨_, rfl⟩
 rw [hW0.out]
 have HS0 : Hid (Ss n0 w W0 g rb (w.heap.size + 1) (w.heap.size + 1 + 1) rv ys σ (stq ys cs p 0) (fun i => if i < 0 then stv ys cs p i else 0)) := by
  obtain ⟨h1, h2, h3, h4, h5, h6⟩ := H0.out
  have hb : Below w.heap.size w W0 := by rw [<- hW0.out]; exact (((Below.refl _ _).alloc (Nat.le_refl _) _).alloc (by simp only [World.size_alloc]; omega) _).alloc (by simp only [World.size_alloc]; omega) _
  refine ⟨by simpa [stq, askS] using h1.below hb, by simpa [stq] using h2.below hb, ?_, ?_, Tch.of_below hb, by omega, by omega, by omega, h1.lt, h2.lt, h3, h4, h5, fun k hk => h2.own.lt k hk, h6⟩
  ·unfold Iv
   rw [<- hW0.out]
   have := heap_alloc_new ((w.alloc (.cells #[.slice (some ⟨sb 0, so_ 0, none⟩) (sn 0) (sc 0), .slice (some ⟨sb 1, so_ 1, none⟩) (sn 1) (sc 1), .slice (some ⟨sb 2, so_ 2, none⟩) (sn 2) (sc 2)] 125)).alloc (.cells #[.int .i64 0, .int .i64 0, .int .i64 0] 55)) (.cells #[.int .i64 0, .int .i64 0, .int .i64 0] 168)
   simp only [World.size_alloc] at this
   exact this
  ·rw [<- hW0.out, Below.heap_alloc _ _ _ (by simp)]
   have := heap_alloc_new (w.alloc (.cells #[.slice (some ⟨sb 0, so_ 0, none⟩) (sn 0) (sc 0), .slice (some ⟨sb 1, so_ 1, none⟩) (sn 1) (sc 1), .slice (some ⟨sb 2, so_ 2, none⟩) (sn 2) (sc 2)] 125)) (.cells #[.int .i64 0, .int .i64 0, .int .i64 0] 55)
   simp only [World.size_alloc] at this
   exact this
 clear hW0
 obtain ⟨B8, hB8⟩ : ∃ B8, Hid (w.heap.size + 1 = B8) := ⟨_, rfl⟩
 obtain ⟨B9, hB9⟩ : ∃ B9, Hid (w.heap.size + 1 + 1 = B9) := ⟨_, rfl⟩
 rw [hB9.out, hB8.out] at HS0 ⊢
 go_loopw [16] (fun i wr => ∃ k : Nat, k <= 3 /\ i = .int .i64 k /\ Hid (Ss n0 w wr g rb B8 B9 rv ys σ (stq ys cs p k) (fun i => if i < k then stv ys cs p i else 0))) (fun i _ => 3 - (intOf i).toNat)
 case atStart => exact ⟨0, by omega, rfl, HS0⟩
 case round =>
  clear HS0
  obtain ⟨k, hk, rfl, S⟩ := hrel
  by_cases hlt : k < 3
  ·obtain ⟨c, hce⟩ : ∃ c, Hid (cs k = c) := ⟨_, rfl⟩
   have hcb := HCS.out k hlt
   have hatk := HAT.out k hlt
   have hx := HC.out k hlt
   rw [hce.out] at hcb hx
   obtain ⟨xb, hxb⟩ : ∃ xb, Hid (sb k = xb) := ⟨_, rfl⟩
   obtain ⟨xo, hxo⟩ : ∃ xo, Hid (so_ k = xo) := ⟨_, rfl⟩
   obtain ⟨xn, hxn⟩ : ∃ xn, Hid (sn k = xn) := ⟨_, rfl⟩
   obtain ⟨xc, hxc⟩ : ∃ xc, Hid (sc k = xc) := ⟨_, rfl⟩
   have HV : Hid ((#[.slice (some ⟨sb 0, so_ 0, none⟩) (sn 0) (sc 0), .slice (some ⟨sb 1, so_ 1, none⟩) (sn 1) (sc 1), .slice (some ⟨sb 2, so_ 2, none⟩) (sn 2) (sc 2)] : Array Value)[k]? = some (.slice (some ⟨xb, xo, none⟩) xn xc)) := by
    show _ = _
    rw [<- hxb.out, <- hxo.out, <- hxn.out, <- hxc.out]
    match k, hlt with
    | 0, _ => rfl
    | 1, _ => rfl
    | 2, _ => rfl
   have hsbk := HSB.out k hlt
   rw [hxb.out] at hx hsbk
   rw [hxo.out] at hx
   rw [hxn.out] at hatk
   have HX : Hid (∀ W, Tch (fun j => j = g ∨ j = rb) w W -> W.cell? ⟨xb, xo + at_, none⟩ = some (.int .i64 c)) := fun W hW => by
    rw [hW.cell (p := ⟨xb, xo + at_, none⟩) (World.block_lt_of_cell? w ⟨xb, xo + at_, none⟩ hx) (fun e => by rcases e with e | e; (· exact hsbk.1 e); (· exact hsbk.2 e))]
    exact hx
   have cx := HX.out wr S.out.tch
   have hi1 : (at_ : Int) < (xn : Int) := by omega
   have hki : (k : Int) < 3 := by omega
   clear hx hsbk hxb hxo hxn hxc
   obtain ⟨q, hq⟩ : ∃ q, Hid (rbs c = q) := ⟨_, rfl⟩
   have hq15 : q <= 15 := by rw [<- hq.out]; unfold rbs; omega
   obtain ⟨p1, hp1⟩ : ∃ p1, Hid ((stq ys cs p k).1 = p1) := ⟨_, rfl⟩
   obtain ⟨bv_, hbv⟩ : ∃ bv_, Hid (tkB ys c p1 = bv_) := ⟨_, rfl⟩
   have hbb := tkB_bd ys c p1 hcb.2
   rw [hbv.out] at hbb
   obtain ⟨X, hX⟩ : ∃ X, Hid (tkX ys c p1 = X) := ⟨_, rfl⟩
   have HRB : Hid (∀ W : World, Calls Tryz.prog 94 #[.int .i64 c] W fun e w' => e = .returned (.int .i64 (q : Int)) /\ w' = W) := fun W => by
    have := zfh9 c W hcb.1 (by omega)
    rw [hq.out] at this
    exact this
   have HTR : Hid (Calls Tryz.prog 134 #[.pointer (some ⟨rb, 0, none⟩), .int .i64 (q : Int)] wr fun e w' => e = .returned (.tuple #[.int .i64 bv_, .int .i64 X]) /\ Rr w' rb rv ys (tkQ ys c p1) /\ Tch (fun k => k = rb) wr w') := by
    have h1 := zabb9 rb rv ys p1 c wr (by rw [<- hp1.out]; exact S.out.rr) hcb.2
    rw [hq.out, hbv.out, hX.out] at h1
    exact h1
   have HSQ : Hid (stq ys cs p (k + 1) = (tkQ ys c p1, (stq ys cs p k).2 && (X == 0))) := by
    show _ = _
    simp only [stq]
    rw [hce.out, hp1.out, hX.out]
   have HSV : Hid (stv ys cs p k = if 0 < c then bv_ + 2 ^ q else bv_) := by
    show _ = _
    unfold stv numV
    rw [hce.out, hp1.out, hbv.out, hq.out]
   go_wp2_with (refine zie9 _ rfl (.tmp 15) (.tmp 16) rfl _ k _ rfl rfl hlt HV.out ?_)
   refine (HRB.out _).mono ?_
   rintro e w1 ⟨rfl, rfl⟩
   go_wp2_with fail
   refine HTR.out.mono ?_
   clear HTR
   rintro e w2 ⟨rfl, hr2, ht2⟩
   have S2 : Hid (Ss n0 w w2 g rb B8 B9 rv ys σ (tkQ ys c p1, (stq ys cs p k).2) (fun i => if i < k then stv ys cs p i else 0)) := S.out.took hr2 ht2
   clear hr2 ht2 S cx
   go_wp2_with fail
   refine (zak9 n0 g _ (X == 0) w2 S2.out.so).mono ?_
   rintro e w3 ⟨rfl, hs3, ht3⟩
   have S3 : Hid (Ss n0 w w3 g rb B8 B9 rv ys σ (stq ys cs p (k + 1)) (fun i => if i < k then stv ys cs p i else 0)) := by rw [HSQ.out]; exact S2.out.asked hs3 ht3
   clear hs3 ht3 S2
   have d9 : w3.cell? ⟨B9, k, none⟩ = some (.int .i64 0) := by
    have := S3.out.iv.at_ k hlt
    simp only [Nat.lt_irrefl, if_false] at this
    exact this
   have f9 := S3.out.iv.fz k
   have S4 : Hid (Ss n0 w (w3.setCell ⟨B9, k, none⟩ (.int .i64 bv_)) g rb B8 B9 rv ys σ (stq ys cs p (k + 1)) (upd (fun i => if i < k then stv ys cs p i else 0) k bv_)) := S3.out.set k hlt bv_
   by_cases hc0 : 0 < c
   ·have HUP : Hid (∀ i, i < 3 -> upd (upd (fun i => if i < k then stv ys cs p i else 0) k bv_) k (bv_ + 2 ^ q) i = if i < k + 1 then stv ys cs p i else 0) := fun i hi => by
     unfold upd
     by_cases e : i = k
     ·subst e
      rw [if_pos rfl, if_pos (by omega), HSV.out, if_pos hc0]
     ·rw [if_neg e, if_neg e]
      show (if i < k then stv ys cs p i else 0) = _
      by_cases e2 : i < k
      ·rw [if_pos e2, if_pos (by omega)]
      ·rw [if_neg e2, if_neg (by omega)]
    have S5 : Hid (Ss n0 w ((w3.setCell ⟨B9, k, none⟩ (.int .i64 bv_)).setCell ⟨B9, k, none⟩ (.int .i64 (bv_ + 2 ^ q))) g rb B8 B9 rv ys σ (stq ys cs p (k + 1)) (fun i => if i < k + 1 then stv ys cs p i else 0)) := (S4.out.set k hlt (bv_ + 2 ^ q)).congr HUP.out
    have hpw : (2 : Int) ^ q <= 32768 := by
     have h1 : (2 : Int) ^ q <= 2 ^ 15 := zs9 hq15
     have e : (2 : Int) ^ 15 = 32768 := by decide
     omega
    have hpw0 : (0 : Int) < 2 ^ q := Int.pow_pos (by decide)
    obtain ⟨PP, hPP⟩ : ∃ PP, Hid ((2 : Int) ^ q = PP) := ⟨_, rfl⟩
    rw [hPP.out] at S5 hpw hpw0
    clear HUP S3
    have hmn : min q 64 = q := by omega
    have hA : IntKind.i64.wrap PP = PP := zi9 _ (by omega) (by omega)
    have hB : IntKind.i64.wrap (bv_ + PP) = bv_ + PP := zi9 _ (by omega) (by omega)
    have e9 : (w3.setCell ⟨B9, k, none⟩ (.int .i64 bv_)).cell? ⟨B9, k, none⟩ = some (.int .i64 bv_) := by
     have := S4.out.iv.at_ k hlt
     simp only [upd, if_true] at this
     exact this
    have g9 := S4.out.iv.fz k
    have tR : ∀ W : World, Calls Tryz.prog 94 #[.int .i64 c] W fun e w' => e = .returned (.int .i64 (q : Int)) /\ w' = W := HRB.out
    go_wp2_with fail
    obtain ⟨W4, hW4⟩ : ∃ W4, Hid (w3.setCell ⟨B9, k, none⟩ (.int .i64 bv_) = W4) := ⟨_, rfl⟩
    rw [hW4.out] at e9 g9 S5 ⊢
    clear hW4 S4 d9 f9
    have hi0 : (0 : Int) <= (k : Int) := by omega
    refine wp_region_still_tail 8 (by kernel_rfl) (by kernel_rfl) ?_
    simp only [List.take_succ_cons, List.take_zero, List.drop_succ_cons, List.drop_zero]
    repeat (first | still_step | still_call (tR _))
    refine wpStill_nil ?_
    have hE : IntKind.i64.wrap (bv_ + IntKind.i64.wrap (2 ^ q)) = bv_ + PP := by rw [hPP.out, hA, hB]
    rw [hE]
    go_wp2_with fail
    go_roundw
    case rel => exact ⟨k + 1, by omega, by go_num, by first | exact S5 | exact S5.out.blw ((Below.refl _ _).drew)⟩
    case measure => simp [intOf]; omega
   ·have HUP : Hid (∀ i, i < 3 -> upd (fun i => if i < k then stv ys cs p i else 0) k bv_ i = if i < k + 1 then stv ys cs p i else 0) := fun i hi => by
     unfold upd
     by_cases e : i = k
     ·subst e
      rw [if_pos rfl, if_pos (by omega), HSV.out, if_neg hc0]
     ·rw [if_neg e]
      show (if i < k then stv ys cs p i else 0) = _
      by_cases e2 : i < k
      ·rw [if_pos e2, if_pos (by omega)]
      ·rw [if_neg e2, if_neg (by omega)]
    have S5 : Hid (Ss n0 w (w3.setCell ⟨B9, k, none⟩ (.int .i64 bv_)) g rb B8 B9 rv ys σ (stq ys cs p (k + 1)) (fun i => if i < k + 1 then stv ys cs p i else 0)) := S4.out.congr HUP.out
    have hc0' : ¬ 0 < c := hc0
    clear HUP S3 S4
    go_wp2_with fail
    go_roundw
    case rel => exact ⟨k + 1, by omega, by go_num, S5⟩
    case measure => simp [intOf]; omega
  ·obtain rfl : k = 3 := by omega
   have vb : ∀ i, i < 3 -> 0 <= stv ys cs p i /\ stv ys cs p i <= 65535 := fun i hi => by
    have hcb := HCS.out i hi
    have h1 := tkB_bd ys (cs i) (stq ys cs p i).1 hcb.2
    have h2 : (2 : Int) ^ rbs (cs i) <= 2 ^ 15 := zs9 (by unfold rbs; omega)
    have h3 : (0 : Int) < 2 ^ rbs (cs i) := Int.pow_pos (by decide)
    have e : (2 : Int) ^ 15 = 32768 := by decide
    unfold stv numV
    split <;> omega
   have v0 := vb 0 (by omega)
   have v1 := vb 1 (by omega)
   have v2 := vb 2 (by omega)
   have c0 : wr.cell? ⟨B9, 0, none⟩ = some (.int .i64 (stv ys cs p 0)) := S.out.iv.at_ 0 (by omega)
   have c1 : wr.cell? ⟨B9, 1, none⟩ = some (.int .i64 (stv ys cs p 1)) := S.out.iv.at_ 1 (by omega)
   have c2 : wr.cell? ⟨B9, 2, none⟩ = some (.int .i64 (stv ys cs p 2)) := S.out.iv.at_ 2 (by omega)
   have hb8 := S.out.b8
   have d0 : wr.cell? ⟨B8, 0, none⟩ = some (.int .i64 0) := by rw [cell_of_row wr B8 0 _ _ (0, 0) hb8]; rfl
   have d1 : wr.cell? ⟨B8, 1, none⟩ = some (.int .i64 0) := by rw [cell_of_row wr B8 1 _ _ (0, 0) hb8]; rfl
   have d2 : wr.cell? ⟨B8, 2, none⟩ = some (.int .i64 0) := by rw [cell_of_row wr B8 2 _ _ (0, 0) hb8]; rfl
   have f0 := frozen_of_row wr B8 0 _ _ hb8
   have f1 := frozen_of_row wr B8 1 _ _ hb8
   have f2 := frozen_of_row wr B8 2 _ _ hb8
   obtain ⟨x0, hx0⟩ : ∃ x0, Hid (stv ys cs p 0 = x0) := ⟨_, rfl⟩
   obtain ⟨x1, hx1⟩ : ∃ x1, Hid (stv ys cs p 1 = x1) := ⟨_, rfl⟩
   obtain ⟨x2, hx2⟩ : ∃ x2, Hid (stv ys cs p 2 = x2) := ⟨_, rfl⟩
   rw [hx0.out] at c0 v0
   rw [hx1.out] at c1 v1
   rw [hx2.out] at c2 v2
   clear vb hlt
   have HB8 : Hid (wr.heap[B8]? = some (.cells #[.int .i64 0, .int .i64 0, .int .i64 0] 55 (0, 0))) := hb8
   clear hb8
   go_wp2_with fail
   obtain ⟨WF, hWF⟩ : ∃ WF, ((wr.setCell ⟨B8, 0, none⟩ (.int .i64 x0)).setCell ⟨B8, 1, none⟩ (.int .i64 (x1 + 4))).setCell ⟨B8, 2, none⟩ (.int .i64 (x2 + 1)) = WF := ⟨_, rfl⟩
   have hblk : WF.heap[B8]? = some (.cells #[.int .i64 x0, .int .i64 (x1 + 4), .int .i64 (x2 + 1)] 55 (0, 0)) := by
    rw [<- hWF]
    have h1 := heap_setCell_same wr B8 0 _ _ (.int .i64 x0) HB8.out
    have h2 := heap_setCell_same _ B8 1 _ _ (.int .i64 (x1 + 4)) h1
    rw [heap_setCell_same _ B8 2 _ _ (.int .i64 (x2 + 1)) h2]
    rfl
   have ht : Tch (fun k => k = B8) wr WF := by
    rw [<- hWF]
    exact (((Tch.refl (fun k => k = B8) wr).setCell (p := ⟨B8, 0, none⟩) (fun _ => rfl) _).setCell (p := ⟨B8, 1, none⟩) (fun _ => rfl) _).setCell (p := ⟨B8, 2, none⟩) (fun _ => rfl) _
   rw [hWF]
   have n8 := S.out.n8
   have gl := S.out.gl
   have rl := S.out.rl
   have wn := S.out.wn
   refine bodyPost_ret (v := .agg #[.int .i64 x0, .int .i64 (x1 + 4), .int .i64 (x2 + 1)]) ?_ rfl ⟨?_, S.out.so.tch ht (fun e => by omega) (fun k e => by omega), S.out.rr.tch ht (fun e => by omega) (fun k hk e => by have := S.out.vl k hk; omega), S.out.tch.trans ht (fun i hi e => by omega)⟩
   ·refine zbo9 (p := 8) (ty := 55) rfl _ _ _ B8 _ rfl ?_
    exact run_loadVar_mid (P := Tryz.prog) WF B8 0 55 [.int .i64 x0, .int .i64 (x1 + 4), .int .i64 (x2 + 1)] _ (fun j v hv => by
     rw [Nat.zero_add, cell_of_row WF B8 j _ _ (0, 0) hblk]
     simpa using hv) Tryz.underlying55 rfl (by kernel_rfl)
   ·rw [hx0.out, hx1.out, hx2.out]
def c3 (a b c : List Int) (i j : Nat) : Int := if j = 0 then a.getD i 0 else if j = 1 then b.getD i 0 else c.getD i 0
def stN (ys a b c : List Int) : Nat -> Nat × Bool
 | 0 => (0, true)
 | i + 1 => ((stq ys (c3 a b c i) (stN ys a b c i).1 3).1, (stN ys a b c i).2 && (stq ys (c3 a b c i) (stN ys a b c i).1 3).2)
def seqAt (ys a b c : List Int) (i : Nat) : Sq :=
 (stv ys (c3 a b c i) (stN ys a b c i).1 0, stv ys (c3 a b c i) (stN ys a b c i).1 1 + 4, stv ys (c3 a b c i) (stN ys a b c i).1 2 + 1)
def seqN (ys a b c : List Int) (n : Nat) : List Sq := (List.range n).map (seqAt ys a b c)
def sgS (σ : Option (List Int)) (many : Int) : Nat -> Option (List Int)
 | 0 => σ
 | k + 1 => (stmS (sgS σ many k) many).2
def sgX (σ : Option (List Int)) (many : Int) (k : Nat) : List Int := (stmS (sgS σ many k) many).1
def stpS (σ : Option (List Int)) (n : Int) : List Sq × Option (List Int) :=
 if (numS σ).1 <= n / 4 /\ (numS σ).2.isSome = true then
  if (numS σ).1 = 0 then ([], (numS σ).2)
  else if (sizedS (sgS (numS σ).2 (numS σ).1 3)).2.isSome = true then
   (seqN (sizedS (sgS (numS σ).2 (numS σ).1 3)).1 (sgX (numS σ).2 (numS σ).1 0) (sgX (numS σ).2 (numS σ).1 1) (sgX (numS σ).2 (numS σ).1 2) (numS σ).1.toNat,
    askS (sizedS (sgS (numS σ).2 (numS σ).1 3)).2
     ((stN (sizedS (sgS (numS σ).2 (numS σ).1 3)).1 (sgX (numS σ).2 (numS σ).1 0) (sgX (numS σ).2 (numS σ).1 1) (sgX (numS σ).2 (numS σ).1 2) (numS σ).1.toNat).2 &&
      fillsB (sizedS (sgS (numS σ).2 (numS σ).1 3)).1 (stN (sizedS (sgS (numS σ).2 (numS σ).1 3)).1 (sgX (numS σ).2 (numS σ).1 0) (sgX (numS σ).2 (numS σ).1 1) (sgX (numS σ).2 (numS σ).1 2) (numS σ).1.toNat).1))
  else ([], none)
 else ([], none)
theorem zeb9 {σ : Option (List Int)} {b : Bool} (h : (askS σ b).isSome = true) : b = true /\ σ.isSome = true := by
 cases b with
 | true => exact ⟨rfl, h⟩
 | false => cases h
theorem zds9 {σ : Option (List Int)} {n : Nat} (h : (bytesS σ n).2.isSome = true) : σ.isSome = true := by
 cases σ with
 | none => cases h
 | some l => rfl
theorem zsg9 {σ : Option (List Int)} (h : (numS σ).2.isSome = true) : σ.isSome = true := by
 cases σ with
 | none => cases h
 | some l => rfl
theorem zdk9 {σ : Option (List Int)} (h : (sizedS σ).2.isSome = true) : σ.isSome = true := zsg9 (zds9 h)
theorem dc_bd {f : Nat -> Nat} {L z lg : Nat} (hf : Fok f L z) (B : List Int) (a p : Nat) : ∀ k {l : List Int} {a' p' : Nat}, dc f L z lg B a p k = some (l, a', p') -> l.length = k /\ ∀ i, i < l.length -> 0 <= l.getD i 0 /\ l.getD i 0 < (L : Int)
 | 0, l, a', p', h => by
  simp only [dc, Option.some.injEq, Prod.mk.injEq] at h
  obtain ⟨rfl, _, _⟩ := h
  exact ⟨rfl, fun i hi => by simp at hi⟩
 | k + 1, l, a', p', h => by
  simp only [dc] at h
  split at h
  ·cases h
  ·rename_i l0 a0 p0 h0
   split at h
   ·cases h
   ·simp only [Option.some.injEq, Prod.mk.injEq] at h
    obtain ⟨rfl, _, _⟩ := h
    obtain ⟨h1, h2⟩ := dc_bd hf B a p k h0
    refine ⟨by simp [h1], fun i hi => ?_⟩
    rw [zbr9]
    by_cases e : i = l0.length
    ·subst e
     rw [if_pos rfl, show l0.getD l0.length 0 = 0 by simp]
     have := hf.tb_lt a0
     omega
    ·rw [if_neg e]
     have := h2 i (by simp at hi; omega)
     omega
theorem zaab9 {s ys : List Int} {log n : Int} (h : (decR s log ys n).1 = 0) : ((decR s log ys n).2.length : Int) = n /\ ∀ i, i < (decR s log ys n).2.length -> 0 <= (decR s log ys n).2.getD i 0 /\ (decR s log ys n).2.getD i 0 < (s.length : Int) := by
 unfold decR at h ⊢
 split
 ·rename_i e; rw [if_pos e] at h; simp at h
 ·rename_i e
  rw [if_neg e] at h
  split
  ·rename_i e2; rw [if_pos e2] at h; simp at h
  ·rename_i e2
   rw [if_neg e2] at h
   split
   ·rename_i e3
    rw [if_pos e3] at h
    obtain ⟨lg, hlg, hs⟩ := Sok.of (show mayS s log = true by simpa using e)
    subst hlg
    rw [Int.toNat_natCast] at h ⊢
    unfold dr at h ⊢
    split
    ·rename_i e4; rw [if_pos e4] at h; simp [drE] at h
    ·rename_i e4
     rw [if_neg e4] at h
     split
     ·rename_i e5; rw [e5] at h; simp [drE] at h
     ·rename_i t e5
      rw [e5] at h
      simp only at h
      split
      ·rename_i e6
       rw [if_pos e6] at h
       unfold drE at h ⊢
       simp only at h ⊢
       split
       ·rename_i e7; rw [if_pos e7] at h; simp at h
       ·obtain ⟨l, a', p'⟩ := t
        have := dc_bd hs.fok _ _ _ _ e5
        simp only
        refine ⟨by omega, this.2⟩
      ·rename_i e6; rw [if_neg e6] at h; simp [drE] at h
   ·rename_i e3; rw [if_neg e3] at h; simp at h
theorem stm_ok {σ : Option (List Int)} {many : Int} (h : (stmS σ many).2.isSome = true) : ((stmS σ many).1.length : Int) = many /\ ∀ i, 0 <= (stmS σ many).1.getD i 0 /\ (stmS σ many).1.getD i 0 <= 16 := by
 unfold stmS at h ⊢
 simp only at h ⊢
 obtain ⟨h1, h2⟩ := zeb9 h
 have h3 := zeb9 (zds9 (zdk9 h2))
 simp only [Bool.and_eq_true, beq_iff_eq, decide_eq_true_eq] at h1 h3
 obtain ⟨h4, h5⟩ := zaab9 h1
 refine ⟨h4, fun i => ?_⟩
 by_cases hi : i < (decR (getR (σ.getD [])).2.1 (getR (σ.getD [])).2.2.1 (sizedS (bytesS (askS σ ((getR (σ.getD [])).1 == 0 && decide (((getR (σ.getD [])).2.1.length : Int) <= 17))) (getR (σ.getD [])).2.2.2.toNat).2).1 many).2.length
 ·have := h5 i hi
  omega
 ·rw [List.getD_eq_getElem?_getD, List.getElem?_eq_none (by omega)]
  simp
theorem zuf9 {σ : Option (List Int)} {many : Int} : ∀ k, (sgS σ many k).isSome = true -> ∀ j, j <= k -> (sgS σ many j).isSome = true
 | 0, h, j, hj => by obtain rfl : j = 0 := by omega
                     exact h
 | k + 1, h, j, hj => by
  by_cases e : j = k + 1
  ·rw [e]; exact h
  ·refine zuf9 k ?_ j (by omega)
   simp only [sgS] at h
   unfold stmS at h
   simp only at h
   exact (zeb9 (zds9 (zdk9 (zeb9 h).2))).2
theorem sg_ok {σ : Option (List Int)} {many : Int} {k : Nat} (h : (sgS σ many k).isSome = true) (j : Nat) (hj : j < k) : ((sgX σ many j).length : Int) = many /\ ∀ i, 0 <= (sgX σ many j).getD i 0 /\ (sgX σ many j).getD i 0 <= 16 :=
 stm_ok (σ := sgS σ many j) (zuf9 k h (j + 1) hj)
end Go.Proofs.YtobenjkacpipeaaGreat
