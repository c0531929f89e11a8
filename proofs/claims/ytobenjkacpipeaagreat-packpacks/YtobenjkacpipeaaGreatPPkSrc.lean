import Derived.Test.YtobenjkacpipeaaGreatPPkCut
import Derived.Test.YtobenjkacpipeaaGreatPNum
import Derived.Test.YtobenjkacpipeaaGreatPFRefMay
import Derived.Test.YtobenjkacpipeaaGreatPHKey
import Derived.Test.YtobenjkacpipeaaGreatPFDec
set_option maxRecDepth 100000
set_option linter.unusedVariables false
set_option linter.unusedSimpArgs false
set_option maxHeartbeats 8000000
namespace Go.Proofs.YtobenjkacpipeaaGreat
open Go.RowKit Pl
structure So (n0 : Nat) (w : World) (g : Nat) (lv : Value) (σ : Option (List Int)) : Prop where
 blk : w.heap[g]? = some (.cells #[lv, .bool σ.isNone] 69 (0, 0))
 rd : Rd .u8 w lv (σ.getD [])
 bys : By (σ.getD [])
 old : ∀ k, lv.ownBlock = some k -> k < n0
 new : n0 <= g
 small : (σ.getD []).length <= 140737488355328
def SoX (n0 : Nat) (w : World) (g : Nat) (σ : Option (List Int)) : Prop := ∃ lv, So n0 w g lv σ
structure Tk (n0 : Nat) (w : World) (v : Value) (xs : List Int) : Prop where
 rd : Rd .u8 w v xs
 bys : By xs
 old : ∀ k, v.ownBlock = some k -> k < n0
theorem Tk.tch {S : Nat -> Prop} {n0 : Nat} {w w' : World} {v : Value} {xs : List Int} (h : Tk n0 w v xs) (ht : Tch S w w') (hs : ∀ k, S k -> n0 <= k) : Tk n0 w' v xs :=
 ⟨h.rd.tch ht (fun b hb e => by have := h.old b hb; have := hs b e; omega), h.bys, h.old⟩
theorem By.nil : By [] := fun i => by simp
theorem rd_nil (k : IntKind) (w : World) : Rd k w (.slice none 0 0) [] := ⟨none, 0, rfl, Nat.le_refl _, by unfold maxLen; omega, fun _ => rfl, .inl rfl⟩
theorem Tk.nil (n0 : Nat) (w : World) : Tk n0 w (.slice none 0 0) [] := ⟨rd_nil _ _, By.nil, fun k e => by cases e⟩
section
variable {n0 : Nat} {w w' : World} {g : Nat} {lv : Value} {σ : Option (List Int)}
theorem So.c0 (h : So n0 w g lv σ) : w.cell? ⟨g, 0, none⟩ = some lv := by rw [cell_of_row w g 0 _ _ (0, 0) h.blk]; rfl
theorem So.c1 (h : So n0 w g lv σ) : w.cell? ⟨g, 1, none⟩ = some (.bool σ.isNone) := by rw [cell_of_row w g 1 _ _ (0, 0) h.blk]; rfl
theorem So.fz (h : So n0 w g lv σ) (j : Nat) : w.frozen? ⟨g, j, none⟩ = false := frozen_of_row w g j _ _ h.blk
theorem So.lt (h : So n0 w g lv σ) : g < w.heap.size := (Array.getElem?_eq_some_iff.1 h.blk).1
theorem So.tch {S : Nat -> Prop} (h : So n0 w g lv σ) (ht : Tch S w w') (hg : ¬ S g) (ho : ∀ k, S k -> n0 <= k) : So n0 w' g lv σ :=
 ⟨by rw [ht.block g h.lt hg]; exact h.blk, h.rd.tch ht (fun b hb e => by have := h.old b hb; have := ho b e; omega), h.bys, h.old, h.new, h.small⟩
theorem So.below (h : So n0 w g lv σ) (hb : Below w.heap.size w w') : So n0 w' g lv σ := h.tch (S := fun _ => False) (Tch.of_below hb) (fun e => e) (fun _ e => e.elim)
theorem SoX.below (h : SoX n0 w g σ) (hb : Below w.heap.size w w') : SoX n0 w' g σ := by obtain ⟨lv, h⟩ := h; exact ⟨lv, h.below hb⟩
theorem SoX.tch {S : Nat -> Prop} (h : SoX n0 w g σ) (ht : Tch S w w') (hg : ¬ S g) (ho : ∀ k, S k -> n0 <= k) : SoX n0 w' g σ := by obtain ⟨lv, h⟩ := h; exact ⟨lv, h.tch ht hg ho⟩
theorem SoX.lt (h : SoX n0 w g σ) : g < w.heap.size := by obtain ⟨lv, h⟩ := h; exact h.lt
theorem SoX.new (h : SoX n0 w g σ) : n0 <= g := by obtain ⟨lv, h⟩ := h; exact h.new
theorem SoX.bys (h : SoX n0 w g σ) : By (σ.getD []) := by obtain ⟨lv, h⟩ := h; exact h.bys
end
def askS (σ : Option (List Int)) (b : Bool) : Option (List Int) := if b then σ else none
theorem zak9 (n0 g : Nat) (σ : Option (List Int)) (b : Bool) (w : World) (h : SoX n0 w g σ) :
  Calls Tryz.prog 68 #[.pointer (some ⟨g, 0, none⟩), .bool b] w fun e w' => e = .returned (.bool (askS σ b).isSome) /\ SoX n0 w' g (askS σ b) /\ Tch (fun k => k = g) w w' := by
 obtain ⟨lv, h⟩ := h
 have H : Hid (So n0 w g lv σ) := h
 have c0 := h.c0
 have c1 := h.c1
 have f0 := h.fz 0
 have f1 := h.fz 1
 clear h
 cases b with
 | true =>
  cases σ with
  | none =>
   simp only [Option.isNone_none] at c1
   go_enter Tryz.func68, Tryz.ntmps68
   go_wp2
   go_ret
   exact ⟨rfl, ⟨lv, H.out⟩, Tch.refl _ _⟩
  | some l =>
   simp only [Option.isNone_some] at c1
   go_enter Tryz.func68, Tryz.ntmps68
   go_wp2
   go_ret
   exact ⟨rfl, ⟨lv, H.out⟩, Tch.refl _ _⟩
 | false =>
  have HF : Hid (SoX n0 ((w.setCell ⟨g, 0, none⟩ (.slice none 0 0)).setCell ⟨g, 1, none⟩ (.bool true)) g none /\ Tch (fun k => k = g) w ((w.setCell ⟨g, 0, none⟩ (.slice none 0 0)).setCell ⟨g, 1, none⟩ (.bool true))) := by
   refine ⟨⟨.slice none 0 0, ?_, rd_nil _ _, By.nil, (fun k e => by cases e), H.out.new, by simp⟩, ((Tch.refl (fun k => k = g) w).setCell (p := ⟨g, 0, none⟩) (fun _ => rfl) _).setCell (p := ⟨g, 1, none⟩) (fun _ => rfl) _⟩
   have h1 := heap_setCell_same w g 0 _ _ (.slice none 0 0) H.out.blk
   have h2 := heap_setCell_same _ g 1 _ _ (.bool true) h1
   rw [h2]
   simp
  generalize σ.isNone = bb at c1
  go_enter Tryz.func68, Tryz.ntmps68
  go_wp2
  go_ret
  exact ⟨rfl, HF.out.1, HF.out.2⟩
def bytesS (σ : Option (List Int)) (n : Nat) : List Int × Option (List Int) := match σ with
 | none => ([], none)
 | some l => if n <= l.length then (l.take n, some (l.drop n)) else ([], none)
theorem zaa9 (n0 g : Nat) (σ : Option (List Int)) (n : Nat) (w : World) (h : SoX n0 w g σ) (hn : n <= 9007199254740992) :
  Calls Tryz.prog 66 #[.pointer (some ⟨g, 0, none⟩), .int .i64 (n : Int)] w fun e w' => ∃ rv, e = .returned rv /\ Tk n0 w' rv (bytesS σ n).1 /\ SoX n0 w' g (bytesS σ n).2 /\ Tch (fun k => k = g) w w' := by
 obtain ⟨lv, h⟩ := h
 have H : Hid (So n0 w g lv σ) := h
 have hng := h.new
 have c0 := h.c0
 have f0 := h.fz 0
 obtain ⟨a, cap, hv, hcl, hcm, _, _⟩ := h.rd
 have hsm := h.small
 obtain ⟨L, hL⟩ : ∃ L, (σ.getD []).length = L := ⟨_, rfl⟩
 have HL : Hid ((σ.getD []).length = L) := hL
 rw [hL] at hv hcl hsm
 clear h hL
 subst hv
 have HA : Hid (∀ b, Calls Tryz.prog 68 #[.pointer (some ⟨g, 0, none⟩), .bool b] w fun e w' => e = .returned (.bool (askS σ b).isSome) /\ SoX n0 w' g (askS σ b) /\ Tch (fun k => k = g) w w') := fun b => zak9 n0 g σ b w ⟨_, H.out⟩
 by_cases hle : n <= L
 ·have hle' : decide (n <= L) = true := by rw [decide_eq_true_eq]; exact hle
  have HA1 := HA.out true
  cases σ with
  | none =>
   have HA2 : Hid (Calls Tryz.prog 68 #[.pointer (some ⟨g, 0, none⟩), .bool true] w fun e w' => e = .returned (.bool false) /\ SoX n0 w' g none /\ Tch (fun k => k = g) w w') := HA1
   clear HA HA1
   go_enter Tryz.func66, Tryz.ntmps66
   go_wp2_with fail
   refine HA2.out.mono ?_
   clear HA2
   rintro e w1 ⟨rfl, hs1, ht1⟩
   have S1 : Hid (SoX n0 w1 g none) := hs1
   have T1 : Hid (Tch (fun k => k = g) w w1) := ht1
   clear hs1 ht1
   go_wp2_with fail
   go_ret
   exact ⟨_, rfl, Tk.nil _ _, S1.out, T1.out⟩
  | some l =>
   have HA2 : Hid (Calls Tryz.prog 68 #[.pointer (some ⟨g, 0, none⟩), .bool true] w fun e w' => e = .returned (.bool true) /\ SoX n0 w' g (some l) /\ Tch (fun k => k = g) w w') := HA1
   have HL2 : Hid (l.length = L) := HL.out
   have hbs : bytesS (some l) n = (l.take n, some (l.drop n)) := by unfold bytesS; simp only; rw [if_pos (by rw [HL2.out]; exact hle)]
   have HBS : Hid (bytesS (some l) n = (l.take n, some (l.drop n))) := hbs
   clear HA HA1 HL hbs
   go_enter Tryz.func66, Tryz.ntmps66
   go_wp2_with fail
   refine HA2.out.mono ?_
   clear HA2 c0 f0 H
   rintro e w1 ⟨rfl, ⟨lv1, hs1⟩, ht1⟩
   have S1 : Hid (So n0 w1 g lv1 (some l)) := hs1
   have T1 : Hid (Tch (fun k => k = g) w w1) := ht1
   have d0 := hs1.c0
   have e0 := hs1.fz 0
   have RD1 : Hid (Rd .u8 w1 lv1 l) := hs1.rd
   clear hs1 ht1
   go_wp2_with (with_reducible (show wpList _ _ _ (Oper.mk _ (Op.slice _ _ none _ _) _ _ _ _ :: _) _ _); refine zbs9 sl8 _ w1 rfl (.tmp 19) (.tmp 20) rfl _ l rfl RD1.out n rfl (by rw [HL2.out]; exact hle) ?_)
   intro tv ht hb
   have TK : Hid (Rd .u8 w1 tv (l.take n)) := ht
   have TB : Hid (∀ k, tv.ownBlock = some k -> lv1.ownBlock = some k) := hb
   clear ht hb
   go_wp2_with (with_reducible (show wpList _ _ _ (Oper.mk _ (Op.slice _ _ (some _) _ _) _ _ _ _ :: _) _ _); refine zcr9 sl8 _ w1 rfl (.tmp 26) (.tmp 27) rfl _ l rfl RD1.out n rfl (by rw [HL2.out]; exact hle) ?_)
   intro rv hr hb2
   have HR : Hid (Rd .u8 w1 rv (l.drop n)) := hr
   have HB2 : Hid (∀ k, rv.ownBlock = some k -> lv1.ownBlock = some k) := hb2
   have HF : Hid (Tk n0 (w1.setCell ⟨g, 0, none⟩ rv) tv (l.take n) /\ SoX n0 (w1.setCell ⟨g, 0, none⟩ rv) g (some (l.drop n)) /\ Tch (fun k => k = g) w (w1.setCell ⟨g, 0, none⟩ rv)) := by
    have ht : Tch (fun k => k = g) w1 (w1.setCell ⟨g, 0, none⟩ rv) := (Tch.refl (fun k => k = g) w1).setCell (p := ⟨g, 0, none⟩) (fun _ => rfl) _
    have hby : By l := S1.out.bys
    have hsl : l.length <= 140737488355328 := S1.out.small
    have hkt : Tk n0 w1 tv (l.take n) := ⟨TK.out, hby.take n, fun k hk => S1.out.old k (TB.out k hk)⟩
    have hkr : Tk n0 w1 rv (l.drop n) := ⟨HR.out, hby.drop n, fun k hk => S1.out.old k (HB2.out k hk)⟩
    refine ⟨hkt.tch ht (fun k e => by rw [e]; exact S1.out.new), ⟨rv, ?_, (hkr.tch ht (fun k e => by rw [e]; exact S1.out.new)).rd, hby.drop n, hkr.old, S1.out.new, by simp only [Option.getD_some, List.length_drop]; omega⟩, T1.out.trans ht (fun _ _ e => e)⟩
    rw [heap_setCell_same w1 g 0 _ _ rv S1.out.blk]
    simp
   obtain ⟨ra, rc, hrv, _⟩ := hr
   obtain ⟨rl, hrl⟩ : ∃ rl, Hid ((l.drop n).length = rl) := ⟨_, rfl⟩
   rw [hrl.out] at hrv
   clear hb2 TK TB HR HB2 S1 T1 RD1
   subst hrv
   go_wp2_with fail
   go_ret
   rw [HBS.out]
   exact ⟨tv, rfl, HF.out.1, HF.out.2.1, HF.out.2.2⟩
 ·have hle' : decide (n <= L) = false := by rw [decide_eq_false_iff_not]; exact hle
  have HA1 := HA.out false
  have HA2 : Hid (Calls Tryz.prog 68 #[.pointer (some ⟨g, 0, none⟩), .bool false] w fun e w' => e = .returned (.bool false) /\ SoX n0 w' g none /\ Tch (fun k => k = g) w w') := HA1
  have HBS : Hid (bytesS σ n = ([], none)) := by
   show _ = _
   cases σ with
   | none => rfl
   | some l => unfold bytesS; simp only; rw [if_neg]; have := HL.out; simp only [Option.getD_some] at this; omega
  clear HA HA1
  go_enter Tryz.func66, Tryz.ntmps66
  go_wp2_with fail
  refine HA2.out.mono ?_
  clear HA2
  rintro e w1 ⟨rfl, hs1, ht1⟩
  have S1 : Hid (SoX n0 w1 g none) := hs1
  have T1 : Hid (Tch (fun k => k = g) w w1) := ht1
  clear hs1 ht1
  go_wp2_with fail
  go_ret
  rw [HBS.out]
  exact ⟨_, rfl, Tk.nil _ _, S1.out, T1.out⟩
def oneS (σ : Option (List Int)) : Int × Option (List Int) := match σ with
 | none => (0, none)
 | some l => if 1 <= l.length then (l.getD 0 0, some (l.drop 1)) else (0, none)
theorem zhg9 (n0 g : Nat) (σ : Option (List Int)) (w : World) (h : SoX n0 w g σ) :
  Calls Tryz.prog 42 #[.pointer (some ⟨g, 0, none⟩)] w fun e w' => e = .returned (.int .u8 (oneS σ).1) /\ SoX n0 w' g (oneS σ).2 /\ Tch (fun k => k = g) w w' := by
 have H := zaa9 n0 g σ 1 w h (by omega)
 have HB : Hid (Calls Tryz.prog 66 #[.pointer (some ⟨g, 0, none⟩), .int .i64 ((1 : Nat) : Int)] w fun e w' => ∃ rv, e = .returned rv /\ Tk n0 w' rv (bytesS σ 1).1 /\ SoX n0 w' g (bytesS σ 1).2 /\ Tch (fun k => k = g) w w') := H
 clear H h
 go_enter Tryz.func42, Tryz.ntmps42
 go_wp2_with fail
 refine HB.out.mono ?_
 rintro e w1 ⟨rv, rfl, htk, hs, ht⟩
 have T1 : Hid (Tch (fun k => k = g) w w1) := ht
 clear HB ht
 by_cases hc : ∃ x r, σ = some (x :: r)
 ·obtain ⟨x, r, rfl⟩ := hc
  have S1 : Hid (SoX n0 w1 g (some r)) := by simpa [bytesS, Hid] using hs
  have hk : Rd .u8 w1 rv [x] := by simpa [bytesS] using htk.rd
  obtain ⟨a, cap, rfl, hcl, hcm, _, hcc⟩ := hk
  have hcc2 : ∃ b o, a = some ⟨b, o, none⟩ /\ ∀ i, i < ([x] : List Int).length -> w1.cell? ⟨b, o + i, none⟩ = some (.int .u8 (([x] : List Int).getD i 0)) := by
   rcases hcc with h | h
   ·cases h
   ·exact h
  clear hcc
  obtain ⟨b, o, rfl, hcc⟩ := hcc2
  have cx : w1.cell? ⟨b, o, none⟩ = some (.int .u8 x) := hcc 0 (by simp)
  have e1 : ([x] : List Int).length = 1 := rfl
  rw [e1]
  clear hcc htk hs hcl hcm e1
  go_wp2_with fail
  go_ret
  exact ⟨rfl, by simpa [oneS] using S1.out, T1.out⟩
 ·have e1 : bytesS σ 1 = ([], none) := by
   cases σ with
   | none => rfl
   | some l =>
    cases l with
    | nil => rfl
    | cons x r => exact absurd ⟨x, r, rfl⟩ hc
  have e2 : oneS σ = (0, none) := by
   cases σ with
   | none => rfl
   | some l =>
    cases l with
    | nil => rfl
    | cons x r => exact absurd ⟨x, r, rfl⟩ hc
  have HE2 : Hid (oneS σ = (0, none)) := e2
  rw [e1] at hs htk
  have S1 : Hid (SoX n0 w1 g none) := hs
  obtain ⟨a, cap, rfl, _⟩ := htk.rd
  clear hs htk e1 e2 hc
  simp only [List.length_nil]
  go_wp2_with fail
  go_ret
  rw [HE2.out]
  exact ⟨rfl, S1.out, T1.out⟩
def numS (σ : Option (List Int)) : Int × Option (List Int) := match σ with
 | none => (0, none)
 | some l => match numRes l with
  | none => (0, none)
  | some r => (r.1, some (l.drop r.2))
theorem zfs9 {σ : Option (List Int)} (h : By (σ.getD [])) : 0 <= (numS σ).1 /\ (numS σ).1 <= 4294967295 := by
 cases σ with
 | none => decide
 | some l =>
  unfold numS
  simp only
  cases e : numRes l with
  | none => exact ⟨by simp, by simp⟩
  | some r => exact zfk9 h (n := r.1) (k := r.2) e
theorem zef9 (n0 g : Nat) (σ : Option (List Int)) (w : World) (h : SoX n0 w g σ) :
  Calls Tryz.prog 43 #[.pointer (some ⟨g, 0, none⟩)] w fun e w' => e = .returned (.int .i64 (numS σ).1) /\ SoX n0 w' g (numS σ).2 /\ Tch (fun k => k = g) w w' := by
 obtain ⟨lv, h⟩ := h
 have H : Hid (So n0 w g lv σ) := h
 have c0 := h.c0
 clear h
 have HN := num_rd lv (σ.getD []) w H.out.rd H.out.bys
 by_cases hc : ∃ l r, σ = some l /\ numRes l = some r
 ·obtain ⟨l, ⟨n, k⟩, rfl, hr⟩ := hc
  have hk5 := zbl9 (n := n) (k := k) hr
  simp only [Option.getD_some] at HN
  rw [hr] at HN
  have HN2 : Hid (Calls Tryz.prog 67 #[lv] w fun e w' => e = .returned (.tuple #[.int .i64 n, .int .i64 (k : Int), .int .i64 0]) /\ w' = w) := HN
  have HE : Hid (numS (some l) = (n, some (l.drop k))) := by show _ = _; unfold numS; simp only; rw [hr]
  have HB : Hid (bytesS (some l) k = (l.take k, some (l.drop k))) := by show _ = _; unfold bytesS; simp only; rw [if_pos hk5.2.1]
  have hk : k <= 5 := hk5.2.2.1
  clear HN hr hk5
  go_enter Tryz.func43, Tryz.ntmps43
  go_wp2_with fail
  refine HN2.out.mono ?_
  clear HN2
  rintro e w1 ⟨rfl, rfl⟩
  go_wp2_with fail
  refine (zak9 n0 g (some l) true w1 ⟨_, H.out⟩).mono ?_
  rintro e w2 ⟨rfl, hs2, ht2⟩
  have S2 : Hid (SoX n0 w2 g (some l)) := hs2
  have T2 : Hid (Tch (fun k => k = g) w1 w2) := ht2
  clear hs2 ht2 c0 H
  go_wp2_with fail
  refine (zaa9 n0 g (some l) k w2 S2.out (by omega)).mono ?_
  rintro e w3 ⟨rv, rfl, _, hs3, ht3⟩
  rw [HB.out] at hs3
  have S3 : Hid (SoX n0 w3 g (some (l.drop k))) := hs3
  have T3 : Hid (Tch (fun k => k = g) w1 w3) := T2.out.trans ht3 (fun _ _ e => e)
  clear hs3 ht3 S2 T2
  go_wp2_with fail
  go_ret
  rw [HE.out]
  exact ⟨rfl, S3.out, T3.out⟩
 ·have hr : numRes (σ.getD []) = none := by
   cases σ with
   | none => rfl
   | some l =>
    simp only [Option.getD_some]
    cases e : numRes l with
    | none => rfl
    | some r => exact absurd ⟨l, r, rfl, e⟩ hc
  have HE : Hid (numS σ = (0, none)) := by
   show _ = _
   cases σ with
   | none => rfl
   | some l => unfold numS; simp only [Option.getD_some] at hr ⊢; rw [hr]
  rw [hr] at HN
  have HN2 : Hid (Calls Tryz.prog 67 #[lv] w fun e w' => e = .returned (.tuple #[.int .i64 0, .int .i64 0, .int .i64 3]) /\ w' = w) := HN
  clear HN hr hc
  go_enter Tryz.func43, Tryz.ntmps43
  go_wp2_with fail
  refine HN2.out.mono ?_
  clear HN2
  rintro e w1 ⟨rfl, rfl⟩
  go_wp2_with fail
  refine (zak9 n0 g σ false w1 ⟨_, H.out⟩).mono ?_
  rintro e w2 ⟨rfl, hs2, ht2⟩
  have S2 : Hid (SoX n0 w2 g none) := hs2
  have T2 : Hid (Tch (fun k => k = g) w1 w2) := ht2
  clear hs2 ht2 c0 H
  go_wp2_with fail
  refine (zaa9 n0 g none 0 w2 S2.out (by omega)).mono ?_
  rintro e w3 ⟨rv, rfl, _, hs3, ht3⟩
  have S3 : Hid (SoX n0 w3 g none) := hs3
  have T3 : Hid (Tch (fun k => k = g) w1 w3) := T2.out.trans ht3 (fun _ _ e => e)
  clear hs3 ht3 S2 T2
  go_wp2_with fail
  go_ret
  rw [HE.out]
  exact ⟨rfl, S3.out, T3.out⟩
def sizedS (σ : Option (List Int)) : List Int × Option (List Int) := bytesS (numS σ).2 (numS σ).1.toNat
theorem zdo9 (n0 g : Nat) (σ : Option (List Int)) (w : World) (h : SoX n0 w g σ) :
  Calls Tryz.prog 104 #[.pointer (some ⟨g, 0, none⟩)] w fun e w' => ∃ rv, e = .returned rv /\ Tk n0 w' rv (sizedS σ).1 /\ SoX n0 w' g (sizedS σ).2 /\ Tch (fun k => k = g) w w' := by
 have hb := zfs9 h.bys
 obtain ⟨n, hn⟩ := Int.eq_ofNat_of_zero_le hb.1
 have H := zef9 n0 g σ w h
 rw [hn] at H hb
 have HN : Hid (Calls Tryz.prog 43 #[.pointer (some ⟨g, 0, none⟩)] w fun e w' => e = .returned (.int .i64 (n : Int)) /\ SoX n0 w' g (numS σ).2 /\ Tch (fun k => k = g) w w') := H
 have HE : Hid (sizedS σ = bytesS (numS σ).2 n) := by show _ = _; unfold sizedS; rw [hn, Int.toNat_natCast]
 have hn2 : n <= 4294967295 := by omega
 clear H hb hn h
 go_enter Tryz.func104, Tryz.ntmps104
 go_wp2_with fail
 refine HN.out.mono ?_
 clear HN
 rintro e w1 ⟨rfl, hs1, ht1⟩
 have S1 : Hid (SoX n0 w1 g (numS σ).2) := hs1
 have T1 : Hid (Tch (fun k => k = g) w w1) := ht1
 clear hs1 ht1
 go_wp2_with fail
 refine (zaa9 n0 g _ n w1 S1.out (by omega)).mono ?_
 rintro e w2 ⟨rv, rfl, hk2, hs2, ht2⟩
 rw [<- HE.out] at hk2 hs2
 have K2 : Hid (Tk n0 w2 rv (sizedS σ).1) := hk2
 have S2 : Hid (SoX n0 w2 g (sizedS σ).2) := hs2
 have T2 : Hid (Tch (fun k => k = g) w w2) := T1.out.trans ht2 (fun _ _ e => e)
 clear hk2 hs2 ht2 S1 T1
 go_wp2_with fail
 go_ret
 exact ⟨rv, rfl, K2.out, S2.out, T2.out⟩
def leN (xs : List Int) : Nat -> Int
 | 0 => 0
 | k + 1 => leN xs k + xs.getD k 0 * 2 ^ (8 * k)
theorem leN_bd {xs : List Int} (h : By xs) : ∀ k, 0 <= leN xs k /\ leN xs k < 2 ^ (8 * k)
 | 0 => by simp [leN]
 | k + 1 => by
  have ih := leN_bd h k
  have hx := h k
  simp only [leN]
  have e : (2 : Int) ^ (8 * (k + 1)) = 2 ^ (8 * k) * 256 := by rw [show 8 * (k + 1) = 8 * k + 8 by omega, Int.pow_add]; rfl
  rw [e]
  generalize (2 : Int) ^ (8 * k) = P at *
  have h1 : 0 <= xs.getD k 0 * P := Int.mul_nonneg hx.1 (by omega)
  have h2 : xs.getD k 0 * P <= 255 * P := Int.mul_le_mul_of_nonneg_right hx.2 (by omega)
  omega
def sumS (σ : Option (List Int)) : Int × Option (List Int) := (leN (bytesS σ 4).1 (bytesS σ 4).1.length, (bytesS σ 4).2)
theorem zfj9 (σ : Option (List Int)) (n : Nat) : (bytesS σ n).1.length <= n := by
 cases σ with
 | none => simp [bytesS]
 | some l => unfold bytesS; simp only; split <;> simp; omega
theorem or_le (xs : List Int) (h : By xs) (k : Nat) (hk : k < 4) (x : Int) (hx : xs.getD k 0 = x) : Go.bits BinOp.or IntKind.i64 (leN xs k) (wrap64 (x * 2 ^ (8 * k))) = leN xs (k + 1) := by
 have hb := leN_bd h k
 have hxb := h k
 rw [hx] at hxb
 simp only [leN]
 rw [hx]
 have hp : (2 : Int) ^ (8 * k) <= 2 ^ 24 := zs9 (by omega)
 have hp0 : (0 : Int) < 2 ^ (8 * k) := Int.pow_pos (by decide)
 have e24 : (2 : Int) ^ 24 = 16777216 := by decide
 have e62 : (2 : Int) ^ 62 = 4611686018427387904 := by decide
 have h0 : 0 <= x * 2 ^ (8 * k) := Int.mul_nonneg hxb.1 (by omega)
 have h1 : x * 2 ^ (8 * k) <= 255 * 16777216 := Int.mul_le_mul hxb.2 (by omega) (by omega) (by decide)
 rw [IntWalk.wrap64_in _ ⟨by omega, by omega⟩]
 exact znw9 _ _ _ hb.1 hb.2 hxb.1 (by omega) (by omega)
theorem ztm9 (n0 g : Nat) (σ : Option (List Int)) (w : World) (h : SoX n0 w g σ) :
  Calls Tryz.prog 45 #[.pointer (some ⟨g, 0, none⟩)] w fun e w' => e = .returned (.int .i64 (sumS σ).1) /\ SoX n0 w' g (sumS σ).2 /\ Tch (fun k => k = g) w w' := by
 have HS : Hid (SoX n0 w g σ) := h
 have hlen := zfj9 σ 4
 unfold sumS
 obtain ⟨xs, hxs⟩ : ∃ xs, Hid ((bytesS σ 4).1 = xs) := ⟨_, rfl⟩
 rw [hxs.out] at hlen ⊢
 simp only
 clear h
 go_enter Tryz.func45, Tryz.ntmps45
 go_wp2_with fail
 refine (zaa9 n0 g σ 4 w HS.out (by omega)).mono ?_
 rintro e w1 ⟨rv, rfl, htk, hs1, ht1⟩
 rw [hxs.out] at htk
 have S1 : Hid (SoX n0 w1 g (bytesS σ 4).2) := hs1
 have T1 : Hid (Tch (fun k => k = g) w w1) := ht1
 have HY : Hid (By xs) := htk.bys
 obtain ⟨a, cap, rfl, hcl, hcm, _, hcc⟩ := htk.rd
 have HC : Hid (xs = [] ∨ ∃ b o, a = some ⟨b, o, none⟩ /\ ∀ i, i < xs.length -> w1.cell? ⟨b, o + i, none⟩ = some (.int .u8 (xs.getD i 0))) := hcc
 clear htk hs1 ht1 HS hcc
 go_wp2_with fail
 go_loop [3, 9] (fun s i => ∃ k : Nat, k <= xs.length /\ i = .int .i64 k /\ s = .int .i64 (leN xs k)) (fun _ i => xs.length - (intOf i).toNat)
 case atStart => exact ⟨0, Nat.zero_le _, rfl, rfl⟩
 case round =>
  obtain ⟨k, hk, rfl, rfl⟩ := hrel
  by_cases hlt : k < xs.length
  ·obtain ⟨b, o, rfl, hcc⟩ : ∃ b o, a = some ⟨b, o, none⟩ /\ ∀ i, i < xs.length -> w1.cell? ⟨b, o + i, none⟩ = some (.int .u8 (xs.getD i 0)) := by
    rcases HC.out with h | h
    ·rw [h] at hlt; simp at hlt
    ·exact h
   obtain ⟨x, hx⟩ : ∃ x, Hid (xs.getD k 0 = x) := ⟨_, rfl⟩
   have cx : w1.cell? ⟨b, o + k, none⟩ = some (.int .u8 x) := by rw [hcc k hlt, hx.out]
   have hxb := HY.out k
   rw [hx.out] at hxb
   have hk4 : k < 4 := by omega
   obtain ⟨m, hm⟩ : ∃ m, Hid (leN xs (k + 1) = m) := ⟨_, rfl⟩
   have hor : bits BinOp.or IntKind.i64 (leN xs k) (wrap64 (x * 2 ^ (8 * k))) = m := by rw [<- hm.out]; exact or_le xs HY.out k hk4 x hx.out
   clear hcc
   go_wp2
   go_round
   case rel => exact ⟨k + 1, by omega, by go_num, by rw [hm.out]⟩
   case measure => simp [intOf]; omega
  ·obtain rfl : k = xs.length := by omega
   go_wp2
   go_ret
   exact ⟨rfl, S1.out, T1.out⟩
end Go.Proofs.YtobenjkacpipeaaGreat
namespace Go.Proofs.YtobenjkacpipeaaGreat
open Go.RowKit Pl Go.Maps Go.WideMaps Hf
def Coded (ls ys : List Int) (n : Int) (out : List Int) : Prop :=
 ∃ q, Rn ls (unpack ys) out q /\ (out.length : Int) = n /\ q <= 8 * ys.length /\ 8 * ys.length - q < 8 /\ val (unpack ys) q ((8 * ys.length - q) % 8) = 0
noncomputable def hdecR (ls ys : List Int) (n : Int) : Int × List Int :=
 if mayC ls = false then (4, []) else if n < 0 ∨ 65536 < n then (1, []) else
  @dite _ (∃ out, Coded ls ys n out) (Classical.propDecidable _) (fun h => (0, Classical.choose h)) (fun _ => (3, []))
theorem zpg9 {ls ys out : List Int} {n : Int} (hm : mayC ls = true) (h0 : 0 <= n) (h1 : n <= 65536) (h : Coded ls ys n out) : hdecR ls ys n = (0, out) := by
 unfold hdecR
 rw [if_neg (by rw [hm]; decide), if_neg (by omega), dif_pos ⟨out, h⟩]
 have hc := Classical.choose_spec (p := fun o => Coded ls ys n o) ⟨out, h⟩
 obtain ⟨q, a1, a2, _⟩ := hc
 obtain ⟨q', b1, b2, _⟩ := h
 rw [(rn_det (LOk.of hm) (zt9 ys) a1 b1 (by omega)).1]
theorem zqb9 {ls ys : List Int} {n : Int} (hm : mayC ls = true) (h0 : 0 <= n) (h1 : n <= 65536) (h : ¬ ∃ out, Coded ls ys n out) : hdecR ls ys n = (3, []) := by
 unfold hdecR
 rw [if_neg (by rw [hm]; decide), if_neg (by omega), dif_neg h]
theorem zts9 {ls ys : List Int} {n : Int} (h : (hdecR ls ys n).1 = 0) : ((hdecR ls ys n).2.length : Int) = n /\ 0 <= n /\ n <= 65536 := by
 unfold hdecR at h ⊢
 split
 ·rename_i e; rw [if_pos e] at h; simp at h
 ·rename_i e
  rw [if_neg e] at h
  split
  ·rename_i e2; rw [if_pos e2] at h; simp at h
  ·rename_i e2
   rw [if_neg e2] at h
   by_cases e3 : ∃ out, Coded ls ys n out
   ·rw [dif_pos e3]
    obtain ⟨q, _, a2, _⟩ := Classical.choose_spec e3
    exact ⟨a2, by omega, by omega⟩
   ·rw [dif_neg e3] at h; simp at h
theorem zsj9 {ls ys : List Int} {n : Int} (h : (hdecR ls ys n).1 ≠ 0) : (hdecR ls ys n).2 = [] := by
 unfold hdecR at h ⊢
 split
 ·rfl
 ·rename_i e
  rw [if_neg e] at h
  split
  ·rfl
  ·rename_i e2
   rw [if_neg e2] at h
   by_cases e3 : ∃ out, Coded ls ys n out
   ·rw [dif_pos e3] at h; exact absurd rfl h
   ·rw [dif_neg e3]
theorem zqz9 {ls ys : List Int} {n : Int} {w w' : World} {e : Ending} (h : DPost ls ys n w e w') :
  ∃ rv, e = .returned (.tuple #[rv, .int .i64 (hdecR ls ys n).1]) /\ Below w.heap.size w w' /\ (∀ k, rv.ownBlock = some k -> w.heap.size <= k) /\ Owns .u8 5 w' rv (hdecR ls ys n).2 := by
 by_cases hm : mayC ls = true
 ·by_cases hn : 0 <= n /\ n <= 65536
  ·by_cases hg : ∃ out, Coded ls ys n out
   ·obtain ⟨out, hg⟩ := hg
    rw [zpg9 hm hn.1 hn.2 hg]
    obtain ⟨q, a1, a2, a3, a4, a5⟩ := hg
    exact zmt9 hm a1 a2 hn.2 a3 a4 a5 h
   ·rw [zqb9 hm hn.1 hn.2 hg]
    obtain ⟨rv, E, rfl, hb, hf, h⟩ := h
    rcases h with ⟨_, rfl, h⟩ | ⟨_, _, _, _, out, q, a1, a2, a3, a4, a5, _⟩
    ·rcases h with ⟨_, h⟩ | ⟨_, _, h⟩ | ⟨rfl, _⟩
     ·rw [hm] at h; cases h
     ·omega
     ·exact ⟨_, rfl, hb, hf, zf9 _ _ _⟩
    ·exact absurd ⟨out, q, a1, a2, a3, a4, a5⟩ hg
  ·have hR : hdecR ls ys n = (1, []) := by unfold hdecR; rw [if_neg (by rw [hm]; decide), if_pos (by omega)]
   rw [hR]
   obtain ⟨rv, E, rfl, hb, hf, h⟩ := h
   rcases h with ⟨_, rfl, h⟩ | ⟨_, _, _, _, _⟩
   ·rcases h with ⟨_, h⟩ | ⟨rfl, _, h⟩ | ⟨_, _, _, _, _⟩
    ·rw [hm] at h; cases h
    ·exact ⟨_, rfl, hb, hf, zf9 _ _ _⟩
    ·omega
   ·omega
 ·have hm' : mayC ls = false := by simpa using hm
  have hR : hdecR ls ys n = (4, []) := by unfold hdecR; rw [if_pos hm']
  rw [hR]
  obtain ⟨rv, E, rfl, hb, hf, h⟩ := h
  rcases h with ⟨_, rfl, h⟩ | ⟨_, h, _⟩
  ·rcases h with ⟨rfl, h⟩ | ⟨_, h, _⟩ | ⟨_, h, _⟩
   ·exact ⟨_, rfl, hb, hf, zf9 _ _ _⟩
   ·exact absurd h hm
   ·exact absurd h hm
  ·exact absurd h hm
structure Lt (g : Nat) (w : World) (v : Value) (xs : List Int) : Prop where
 rd : Rd .u8 w v xs
 bys : By xs
 ne : v.ownBlock ≠ some g
theorem Lt.tch {g : Nat} {w w' : World} {v : Value} {xs : List Int} (h : Lt g w v xs) (ht : Tch (fun k => k = g) w w') : Lt g w' v xs :=
 ⟨h.rd.tch ht (fun b hb e => h.ne (by rw [hb, e])), h.bys, h.ne⟩
theorem zru9 (σ : Option (List Int)) (n : Nat) : (bytesS σ n).1.length <= (σ.getD []).length /\ ((bytesS σ n).2.getD []).length <= (σ.getD []).length := by
 cases σ with
 | none => simp [bytesS]
 | some l =>
  unfold bytesS
  simp only
  split
  ·simp
   omega
  ·simp
theorem zzj9 (σ : Option (List Int)) : ((numS σ).2.getD []).length <= (σ.getD []).length := by
 cases σ with
 | none => simp [numS]
 | some l =>
  unfold numS
  simp only
  cases e : numRes l with
  | none => simp
  | some r => simp
theorem zfe9 (σ : Option (List Int)) : (sizedS σ).1.length <= (σ.getD []).length := by
 unfold sizedS
 have h1 := (zru9 (numS σ).2 (numS σ).1.toNat).1
 have h2 := zzj9 σ
 omega
noncomputable def tcS (σ : Option (List Int)) (many : Int) : List Int × Option (List Int) :=
 let t := tabR (σ.getD [])
 let z := sizedS (bytesS (askS σ (t.1 == 0)) t.2.2).2
 let d := hdecR t.2.1 z.1 many
 (d.2, askS z.2 (d.1 == 0))
theorem by_rn {ls bs out : List Int} {q : Nat} (hr : Rn ls bs out q) : By out := by
 induction hr with
 | nil => exact By.nil
 | snoc o q t c h hh ih =>
  intro i
  rw [zbr9]
  have := ih i
  by_cases e : i = o.length
  ·subst e
   rw [if_pos rfl, show o.getD o.length 0 = 0 by simp]
   have := hh.1
   omega
  ·rw [if_neg e]; omega
theorem zws9 {ls ys out : List Int} {n : Int} (h : Coded ls ys n out) : By out := by
 obtain ⟨q, hr, _⟩ := h
 exact by_rn hr
theorem znq9 (ls ys : List Int) (n : Int) : By (hdecR ls ys n).2 := by
 unfold hdecR
 split
 ·exact By.nil
 ·split
  ·exact By.nil
  ·by_cases e3 : ∃ out, Coded ls ys n out
   ·rw [dif_pos e3]
    exact zws9 (Classical.choose_spec e3)
   ·rw [dif_neg e3]; exact By.nil
theorem zix9 (n0 g : Nat) (σ : Option (List Int)) (many : Int) (w : World) (h : SoX n0 w g σ) :
  Calls Tryz.prog 101 #[.pointer (some ⟨g, 0, none⟩), .int .i64 many] w fun e w' => ∃ rv, e = .returned rv /\ Lt g w' rv (tcS σ many).1 /\ SoX n0 w' g (tcS σ many).2 /\ Tch (fun k => k = g) w w' := by
 obtain ⟨lv, h⟩ := h
 have H : Hid (So n0 w g lv σ) := h
 have c0 := h.c0
 have hgl := h.lt
 have hng := h.new
 clear h
 unfold tcS
 simp only
 obtain ⟨t, ht⟩ : ∃ t, Hid (tabR (σ.getD []) = t) := ⟨_, rfl⟩
 have hsz := zsk9 (σ.getD [])
 have hsm := H.out.small
 have htB := zsi9 lv (σ.getD []) w H.out.rd H.out.bys hsm
 rw [ht.out] at hsz htB ⊢
 obtain ⟨E, l, z⟩ := t
 simp only at hsz ⊢
 have hz32 : Hid (E ≠ 0 -> z = 0) := fun hE => by
  have := (zxv9 (ys := σ.getD []) (by rw [ht.out]; exact hE)).2
  rw [ht.out] at this
  exact this
 have HTB : Hid (Calls Tryz.prog 130 #[lv] w fun e w' => TBPost (E, l, z) w e w') := htB
 clear htB
 obtain ⟨σ3, hσ3⟩ : ∃ σ3, Hid ((bytesS (askS σ (E == 0)) z).2 = σ3) := ⟨_, rfl⟩
 rw [hσ3.out]
 obtain ⟨zs, hzs⟩ : ∃ zs, Hid (sizedS σ3 = zs) := ⟨_, rfl⟩
 rw [hzs.out]
 obtain ⟨ys, σ4⟩ := zs
 simp only
 obtain ⟨ds, hds⟩ : ∃ ds, Hid (hdecR l ys many = ds) := ⟨_, rfl⟩
 have HBY : Hid (By ds.2) := by rw [<- hds.out]; exact znq9 l ys many
 rw [hds.out]
 obtain ⟨E5, out⟩ := ds
 simp only at HBY ⊢
 go_enter Tryz.func101, Tryz.ntmps101
 go_wp2_with fail
 refine HTB.out.mono ?_
 clear HTB
 rintro e w1 ⟨d, rfl, hb1, hf1, ho1⟩
 simp only
 have S1 : Hid (SoX n0 w1 g σ) := ⟨lv, H.out.below hb1⟩
 have O1 : Hid (Owns .i64 3 w1 d l) := ho1
 have HNE : Hid (∀ k, d.ownBlock = some k -> k ≠ g) := fun k hk => by have := hf1 k hk; omega
 have T1 : Hid (Tch (fun k => k = g) w w1) := Tch.of_below hb1
 clear hb1 hf1 ho1 c0 H
 go_wp2_with fail
 refine (zak9 n0 g σ (E == 0) w1 S1.out).mono ?_
 rintro e w2 ⟨rfl, hs2, ht2⟩
 have S2 : Hid (SoX n0 w2 g (askS σ (E == 0))) := hs2
 have O2 : Hid (Owns .i64 3 w2 d l) := O1.out.tch ht2 (fun k hk e => HNE.out k hk e)
 have T2 : Hid (Tch (fun k => k = g) w w2) := T1.out.trans ht2 (fun _ _ e => e)
 clear hs2 ht2 S1 O1 T1
 go_wp2_with fail
 refine (zaa9 n0 g _ z w2 S2.out (by omega)).mono ?_
 rintro e w3 ⟨rv3, rfl, _, hs3, ht3⟩
 rw [hσ3.out] at hs3
 have S3 : Hid (SoX n0 w3 g σ3) := hs3
 have O3 : Hid (Owns .i64 3 w3 d l) := O2.out.tch ht3 (fun k hk e => HNE.out k hk e)
 have T3 : Hid (Tch (fun k => k = g) w w3) := T2.out.trans ht3 (fun _ _ e => e)
 clear hs3 ht3 S2 O2 T2
 go_wp2_with fail
 refine (zdo9 n0 g σ3 w3 S3.out).mono ?_
 rintro e w4 ⟨rv4, rfl, hk4, hs4, ht4⟩
 rw [hzs.out] at hs4 hk4
 simp only at hs4 hk4
 have S4 : Hid (SoX n0 w4 g σ4) := hs4
 have K4 : Hid (Tk n0 w4 rv4 ys) := hk4
 have O4 : Hid (Owns .i64 3 w4 d l) := O3.out.tch ht4 (fun k hk e => HNE.out k hk e)
 have T4 : Hid (Tch (fun k => k = g) w w4) := T3.out.trans ht4 (fun _ _ e => e)
 have HYL : Hid (ys.length <= 140737488355328) := by
  show _ <= _
  have h1 := S3.out
  obtain ⟨lv3, h1⟩ := h1
  have h2 := zfe9 σ3
  rw [hzs.out] at h2
  have := h1.small
  simp only at h2
  omega
 clear hs4 hk4 ht4 S3 O3 T3
 go_wp2_with fail
 refine (zpn9 d rv4 l ys many w4 O4.out.rd K4.out.rd K4.out.bys HYL.out).mono ?_
 intro e w5 hd5
 obtain ⟨rv5, rfl, hb5, hf5, ho5⟩ := zqz9 hd5
 clear hd5
 rw [hds.out] at ho5 ⊢
 simp only at ho5 ⊢
 have S5 : Hid (SoX n0 w5 g σ4) := S4.out.below hb5
 have L5 : Hid (Lt g w5 rv5 out) := ⟨ho5.rd, HBY.out, fun e => by have := hf5 g e; have := S4.out.lt; omega⟩
 have T5 : Hid (Tch (fun k => k = g) w w5) := T4.out.trans (Tch.of_below (S := fun k => k = g) hb5) (fun _ _ e => e)
 clear hb5 hf5 ho5 S4 K4 O4 T4
 go_wp2_with fail
 refine (zak9 n0 g σ4 (E5 == 0) w5 S5.out).mono ?_
 rintro e w6 ⟨rfl, hs6, ht6⟩
 have S6 : Hid (SoX n0 w6 g (askS σ4 (E5 == 0))) := hs6
 have L6 : Hid (Lt g w6 rv5 out) := L5.out.tch ht6
 have T6 : Hid (Tch (fun k => k = g) w w6) := T5.out.trans ht6 (fun _ _ e => e)
 clear hs6 ht6 S5 L5 T5
 go_wp2_with fail
 go_ret
 exact ⟨rv5, rfl, L6.out, S6.out, T6.out⟩
noncomputable def litS (σ : Option (List Int)) (n : Int) : List Int × Option (List Int) :=
 let m := numS σ
 if m.1 <= n /\ m.2.isSome = true then
  let o := oneS m.2
  if o.1 = 0 then bytesS o.2 m.1.toNat else if o.1 = 1 then tcS o.2 m.1 else ([], none)
 else ([], none)
theorem Tk.lt {n0 g : Nat} {w : World} {v : Value} {xs : List Int} (h : Tk n0 w v xs) (hg : n0 <= g) : Lt g w v xs := ⟨h.rd, h.bys, fun e => by have := h.old g e; omega⟩
theorem Lt.nil (g : Nat) (w : World) : Lt g w (.slice none 0 0) [] := ⟨rd_nil _ _, By.nil, fun e => by cases e⟩
theorem zer9 (n0 g : Nat) (σ : Option (List Int)) (n : Int) (w : World) (h : SoX n0 w g σ) :
  Calls Tryz.prog 71 #[.pointer (some ⟨g, 0, none⟩), .int .i64 n] w fun e w' => ∃ rv, e = .returned rv /\ Lt g w' rv (litS σ n).1 /\ SoX n0 w' g (litS σ n).2 /\ Tch (fun k => k = g) w w' := by
 have H : Hid (SoX n0 w g σ) := h
 have hmb := zfs9 h.bys
 have hng := h.new
 clear h
 unfold litS
 simp only
 obtain ⟨ms, hms⟩ : ∃ ms, Hid (numS σ = ms) := ⟨_, rfl⟩
 have HN := zef9 n0 g σ w H.out
 rw [hms.out] at hmb HN ⊢
 obtain ⟨m0, σ1⟩ := ms
 simp only at hmb HN ⊢
 obtain ⟨m, rfl⟩ := Int.eq_ofNat_of_zero_le hmb.1
 have hm32 : m <= 4294967295 := by omega
 have HN2 : Hid (Calls Tryz.prog 43 #[.pointer (some ⟨g, 0, none⟩)] w fun e w' => e = .returned (.int .i64 (m : Int)) /\ SoX n0 w' g σ1 /\ Tch (fun k => k = g) w w') := HN
 clear HN hmb
 by_cases hle : (m : Int) <= n
 ·have hleb : decide ((m : Int) <= n) = true := by rw [decide_eq_true_eq]; exact hle
  cases σ1 with
  | none =>
   rw [if_neg (by simp)]
   go_enter Tryz.func71, Tryz.ntmps71
   go_wp2_with fail
   refine HN2.out.mono ?_
   clear HN2
   rintro e w1 ⟨rfl, hs1, ht1⟩
   have S1 : Hid (SoX n0 w1 g none) := hs1
   have T1 : Hid (Tch (fun k => k = g) w w1) := ht1
   clear hs1 ht1
   go_wp2_with fail
   refine (zak9 n0 g none true w1 S1.out).mono ?_
   rintro e w2 ⟨rfl, hs2, ht2⟩
   have S2 : Hid (SoX n0 w2 g none) := hs2
   have T2 : Hid (Tch (fun k => k = g) w w2) := T1.out.trans ht2 (fun _ _ e => e)
   clear hs2 ht2 S1 T1
   simp only [askS, Option.isSome_none, if_true]
   go_wp2_with fail
   go_ret
   exact ⟨_, rfl, Lt.nil _ _, S2.out, T2.out⟩
  | some l1 =>
   rw [if_pos ⟨hle, rfl⟩]
   obtain ⟨os, hos⟩ : ∃ os, Hid (oneS (some l1) = os) := ⟨_, rfl⟩
   rw [hos.out]
   obtain ⟨x, σ2⟩ := os
   simp only [Int.toNat_natCast]
   have HO : Hid (∀ W, SoX n0 W g (some l1) -> Calls Tryz.prog 42 #[.pointer (some ⟨g, 0, none⟩)] W fun e w' => e = .returned (.int .u8 x) /\ SoX n0 w' g σ2 /\ Tch (fun k => k = g) W w') := fun W hW => by
    have := zhg9 n0 g (some l1) W hW
    rw [hos.out] at this
    exact this
   obtain ⟨R, hR⟩ : ∃ R, Hid ((if x = 0 then bytesS σ2 m else if x = 1 then tcS σ2 (m : Int) else ([], none)) = R) := ⟨_, rfl⟩
   rw [hR.out]
   go_enter Tryz.func71, Tryz.ntmps71
   go_wp2_with fail
   refine HN2.out.mono ?_
   clear HN2
   rintro e w1 ⟨rfl, hs1, ht1⟩
   have S1 : Hid (SoX n0 w1 g (some l1)) := hs1
   have T1 : Hid (Tch (fun k => k = g) w w1) := ht1
   clear hs1 ht1
   go_wp2_with fail
   refine (zak9 n0 g (some l1) true w1 S1.out).mono ?_
   rintro e w2 ⟨rfl, hs2, ht2⟩
   have S2 : Hid (SoX n0 w2 g (some l1)) := hs2
   have T2 : Hid (Tch (fun k => k = g) w w2) := T1.out.trans ht2 (fun _ _ e => e)
   clear hs2 ht2 S1 T1
   simp only [askS, Option.isSome_some, if_true]
   go_wp2_with fail
   refine (HO.out w2 S2.out).mono ?_
   clear HO
   rintro e w3 ⟨rfl, hs3, ht3⟩
   have S3 : Hid (SoX n0 w3 g σ2) := hs3
   have T3 : Hid (Tch (fun k => k = g) w w3) := T2.out.trans ht3 (fun _ _ e => e)
   clear hs3 ht3 S2 T2
   by_cases hx0 : x = 0
   ·have hx0b : (x == 0) = true := by simp [hx0]
    have HR : Hid (bytesS σ2 m = R) := by have := hR.out; rw [if_pos hx0] at this; exact this
    clear hx0 hR
    go_wp2_with fail
    refine (zaa9 n0 g σ2 m w3 S3.out (by omega)).mono ?_
    rintro e w4 ⟨rv, rfl, hk4, hs4, ht4⟩
    rw [HR.out] at hk4 hs4
    have S4 : Hid (SoX n0 w4 g R.2) := hs4
    have K4 : Hid (Lt g w4 rv R.1) := hk4.lt hng
    have T4 : Hid (Tch (fun k => k = g) w w4) := T3.out.trans ht4 (fun _ _ e => e)
    clear hs4 hk4 ht4 S3 T3
    go_wp2_with fail
    go_ret
    exact ⟨rv, rfl, K4.out, S4.out, T4.out⟩
   ·have hx0b : (x == 0) = false := by simp [hx0]
    by_cases hx1 : x = 1
    ·have hx1b : (x == 1) = true := by simp [hx1]
     have HR : Hid (tcS σ2 (m : Int) = R) := by have := hR.out; rw [if_neg hx0, if_pos hx1] at this; exact this
     clear hx0 hx1 hR
     go_wp2_with fail
     refine (zix9 n0 g σ2 (m : Int) w3 S3.out).mono ?_
     rintro e w4 ⟨rv, rfl, hk4, hs4, ht4⟩
     rw [HR.out] at hk4 hs4
     have S4 : Hid (SoX n0 w4 g R.2) := hs4
     have K4 : Hid (Lt g w4 rv R.1) := hk4
     have T4 : Hid (Tch (fun k => k = g) w w4) := T3.out.trans ht4 (fun _ _ e => e)
     clear hs4 hk4 ht4 S3 T3
     go_wp2_with fail
     go_ret
     exact ⟨rv, rfl, K4.out, S4.out, T4.out⟩
    ·have hx1b : (x == 1) = false := by simp [hx1]
     have HR : Hid (R = ([], none)) := by have := hR.out; rw [if_neg hx0, if_neg hx1] at this; exact this.symm
     clear hx0 hx1 hR
     go_wp2_with fail
     refine (zak9 n0 g σ2 false w3 S3.out).mono ?_
     rintro e w4 ⟨rfl, hs4, ht4⟩
     have S4 : Hid (SoX n0 w4 g none) := hs4
     have T4 : Hid (Tch (fun k => k = g) w w4) := T3.out.trans ht4 (fun _ _ e => e)
     clear hs4 ht4 S3 T3
     go_wp2_with fail
     go_ret
     rw [HR.out]
     exact ⟨_, rfl, Lt.nil _ _, S4.out, T4.out⟩
 ·have hleb : decide ((m : Int) <= n) = false := by rw [decide_eq_false_iff_not]; exact hle
  rw [if_neg (fun e => hle e.1)]
  go_enter Tryz.func71, Tryz.ntmps71
  go_wp2_with fail
  refine HN2.out.mono ?_
  clear HN2
  rintro e w1 ⟨rfl, hs1, ht1⟩
  have S1 : Hid (SoX n0 w1 g σ1) := hs1
  have T1 : Hid (Tch (fun k => k = g) w w1) := ht1
  clear hs1 ht1
  go_wp2_with fail
  refine (zak9 n0 g σ1 false w1 S1.out).mono ?_
  rintro e w2 ⟨rfl, hs2, ht2⟩
  have S2 : Hid (SoX n0 w2 g none) := hs2
  have T2 : Hid (Tch (fun k => k = g) w w2) := T1.out.trans ht2 (fun _ _ e => e)
  clear hs2 ht2 S1 T1
  simp only [askS]
  go_wp2_with fail
  go_ret
  exact ⟨_, rfl, Lt.nil _ _, S2.out, T2.out⟩
def stmS (σ : Option (List Int)) (many : Int) : List Int × Option (List Int) :=
 let t := getR (σ.getD [])
 let z := sizedS (bytesS (askS σ (t.1 == 0 && decide ((t.2.1.length : Int) <= 17))) t.2.2.2.toNat).2
 let d := decR t.2.1 t.2.2.1 z.1 many
 (d.2, askS z.2 (d.1 == 0))
theorem zza9 {ys : List Int} (hy : By ys) : 0 <= (getR ys).2.2.2 /\ (getR ys).2.2.2 <= (ys.length : Int) /\ 0 <= (getR ys).2.2.1 /\ (getR ys).2.2.1 <= 9 := by
 unfold getR
 split
 ·simp
 ·cases e : numRes (ys.drop 1) with
  | none => simp
  | some r =>
   obtain ⟨n, k⟩ := r
   simp only
   split
   ·simp
   ·rename_i hb
    cases e2 : tkn (ys.drop (1 + k)) n.toNat with
    | none => simp
    | some t =>
     obtain ⟨l, p⟩ := t
     simp only
     split
     ·have h1 := (tkn_le e2).2
      have h2 := (zbl9 (n := n) (k := k) e).2.1
      rw [List.length_drop] at h1 h2
      simp only
      refine ⟨by omega, by omega, ?_, ?_⟩ <;> (have := hy 0; omega)
     ·simp
theorem zhh9 (n0 g : Nat) (σ : Option (List Int)) (many : Int) (w : World) (h : SoX n0 w g σ) :
  Calls Tryz.prog 102 #[.pointer (some ⟨g, 0, none⟩), .int .i64 many] w fun e w' => ∃ rv, e = .returned rv /\ Owns .i64 3 w' rv (stmS σ many).1 /\ (∀ k, rv.ownBlock = some k -> w.heap.size <= k) /\ SoX n0 w' g (stmS σ many).2 /\ Tch (fun k => k = g) w w' := by
 obtain ⟨lv, h⟩ := h
 have H : Hid (So n0 w g lv σ) := h
 have c0 := h.c0
 have hgl := h.lt
 have hng := h.new
 clear h
 unfold stmS
 simp only
 obtain ⟨t, ht⟩ : ∃ t, Hid (getR (σ.getD []) = t) := ⟨_, rfl⟩
 have hsz := zza9 H.out.bys
 have hsm := H.out.small
 have htB := znh9 lv (σ.getD []) w H.out.rd H.out.bys
 rw [ht.out] at hsz htB ⊢
 obtain ⟨E, l, lg, z0⟩ := t
 simp only at hsz ⊢
 obtain ⟨z, rfl⟩ := Int.eq_ofNat_of_zero_le hsz.1
 have HTB : Hid (Calls Tryz.prog 132 #[lv] w fun e w' => GPost (E, l, lg, (z : Int)) w e w') := htB
 clear htB
 rw [Int.toNat_natCast]
 obtain ⟨wb, hwb⟩ : ∃ wb : Bool, Hid ((E == 0 && decide ((l.length : Int) <= 17)) = wb) := ⟨_, rfl⟩
 rw [hwb.out]
 obtain ⟨σ3, hσ3⟩ : ∃ σ3, Hid ((bytesS (askS σ wb) z).2 = σ3) := ⟨_, rfl⟩
 rw [hσ3.out]
 obtain ⟨zs, hzs⟩ : ∃ zs, Hid (sizedS σ3 = zs) := ⟨_, rfl⟩
 rw [hzs.out]
 obtain ⟨ys, σ4⟩ := zs
 simp only
 obtain ⟨ds, hds⟩ : ∃ ds, Hid (decR l lg ys many = ds) := ⟨_, rfl⟩
 rw [hds.out]
 obtain ⟨E5, out⟩ := ds
 simp only
 go_enter Tryz.func102, Tryz.ntmps102
 go_wp2_with fail
 refine HTB.out.mono ?_
 clear HTB
 rintro e w1 ⟨d, rfl, hb1, hf1, ho1⟩
 simp only
 have S1 : Hid (SoX n0 w1 g σ) := ⟨lv, H.out.below hb1⟩
 have O1 : Hid (Owns .i64 3 w1 d l) := ho1
 have HNE : Hid (∀ k, d.ownBlock = some k -> k ≠ g) := fun k hk => by have := hf1 k hk; omega
 have T1 : Hid (Tch (fun k => k = g) w w1) := Tch.of_below hb1
 obtain ⟨da, dc, hda, _⟩ := ho1.rd
 subst hda
 clear hb1 hf1 ho1 c0 H
 have HASK : Hid (Calls Tryz.prog 68 #[.pointer (some ⟨g, 0, none⟩), .bool wb] w1 fun e w' => e = .returned (.bool (askS σ wb).isSome) /\ SoX n0 w' g (askS σ wb) /\ Tch (fun k => k = g) w1 w') := zak9 n0 g σ wb w1 S1.out
 have hcase : (E = 0 /\ wb = decide ((l.length : Int) <= 17)) ∨ ((E == 0) = false /\ wb = false) := by
  by_cases hE : E = 0
  ·left; exact ⟨hE, by rw [<- hwb.out, hE]; rfl⟩
  ·right
   have : (E == 0) = false := by simp [hE]
   exact ⟨this, by rw [<- hwb.out, this]; rfl⟩
 have HW2 : Hid ((E == 0 && decide ((l.length : Int) <= 17)) = wb) := hwb
 clear hwb HW2
 rcases hcase with ⟨rfl, rfl⟩ | ⟨hE, rfl⟩
 all_goals
  go_wp2_with fail
  refine HASK.out.mono ?_
  clear HASK
  rintro e w2 ⟨rfl, hs2, ht2⟩
  have S2 : Hid (SoX n0 w2 g (askS σ _)) := hs2
  have O2 : Hid (Owns .i64 3 w2 (.slice da l.length dc) l) := O1.out.tch ht2 (fun k hk e => HNE.out k hk e)
  have T2 : Hid (Tch (fun k => k = g) w w2) := T1.out.trans ht2 (fun _ _ e => e)
  clear hs2 ht2 S1 O1 T1
  go_wp2_with fail
  refine (zaa9 n0 g _ z w2 S2.out (by omega)).mono ?_
  rintro e w3 ⟨rv3, rfl, _, hs3, ht3⟩
  rw [hσ3.out] at hs3
  have S3 : Hid (SoX n0 w3 g σ3) := hs3
  have O3 : Hid (Owns .i64 3 w3 (.slice da l.length dc) l) := O2.out.tch ht3 (fun k hk e => HNE.out k hk e)
  have T3 : Hid (Tch (fun k => k = g) w w3) := T2.out.trans ht3 (fun _ _ e => e)
  clear hs3 ht3 S2 O2 T2
  go_wp2_with fail
  refine (zdo9 n0 g σ3 w3 S3.out).mono ?_
  rintro e w4 ⟨rv4, rfl, hk4, hs4, ht4⟩
  rw [hzs.out] at hs4 hk4
  simp only at hs4 hk4
  have S4 : Hid (SoX n0 w4 g σ4) := hs4
  have K4 : Hid (Tk n0 w4 rv4 ys) := hk4
  have O4 : Hid (Owns .i64 3 w4 (.slice da l.length dc) l) := O3.out.tch ht4 (fun k hk e => HNE.out k hk e)
  have T4 : Hid (Tch (fun k => k = g) w w4) := T3.out.trans ht4 (fun _ _ e => e)
  have HYL : Hid (ys.length <= 140737488355328) := by
   show _ <= _
   have h1 := S3.out
   obtain ⟨lv3, h1⟩ := h1
   have h2 := zfe9 σ3
   rw [hzs.out] at h2
   have := h1.small
   simp only at h2
   omega
  clear hs4 hk4 ht4 S3 O3 T3
  go_wp2_with fail
  refine (zna9 _ rv4 l ys lg many w4 O4.out.rd K4.out.rd K4.out.bys HYL.out).mono ?_
  rintro e w5 ⟨rv5, rfl, hb5, hf5, ho5⟩
  rw [hds.out] at ho5 ⊢
  simp only at ho5 ⊢
  have S5 : Hid (SoX n0 w5 g σ4) := S4.out.below hb5
  have L5 : Hid (Owns .i64 3 w5 rv5 out) := ho5
  have N5 : Hid (∀ k, rv5.ownBlock = some k -> w.heap.size <= k) := fun k hk => by have := hf5 k hk; have := T4.out.size; omega
  have M5 : Hid (∀ k, rv5.ownBlock = some k -> k ≠ g) := fun k hk => by have := hf5 k hk; have := S4.out.lt; omega
  have T5 : Hid (Tch (fun k => k = g) w w5) := T4.out.trans (Tch.of_below (S := fun k => k = g) hb5) (fun _ _ e => e)
  clear hb5 hf5 ho5 S4 K4 O4 T4
  go_wp2_with fail
  refine (zak9 n0 g σ4 (E5 == 0) w5 S5.out).mono ?_
  rintro e w6 ⟨rfl, hs6, ht6⟩
  have S6 : Hid (SoX n0 w6 g (askS σ4 (E5 == 0))) := hs6
  have L6 : Hid (Owns .i64 3 w6 rv5 out) := L5.out.tch ht6 (fun k hk e => M5.out k hk e)
  have T6 : Hid (Tch (fun k => k = g) w w6) := T5.out.trans ht6 (fun _ _ e => e)
  clear hs6 ht6 S5 L5 T5
  go_wp2_with fail
  go_ret
  exact ⟨rv5, rfl, L6.out, N5.out, S6.out, T6.out⟩
def rbs (c : Int) : Nat := (c - 1).toNat
theorem zfh9 (c : Int) (w : World) (h0 : 0 <= c) (h1 : c <= 64) :
  Calls Tryz.prog 94 #[.int .i64 c] w fun e w' => e = .returned (.int .i64 (rbs c : Int)) /\ w' = w := by
 have HE : Hid (max (c - 1) 0 = (rbs c : Int)) := by show _ = _; unfold rbs; omega
 go_enter Tryz.func94, Tryz.ntmps94
 go_wp2
 go_ret
 exact ⟨by rw [<- HE.out]; rfl, rfl⟩
def fillsB (ys : List Int) (p : Nat) : Bool := decide (8 * ys.length - p < 8 /\ val (unpack ys) p (8 * ys.length - p) = 0)
theorem zhy9 (rb : Nat) (rv : Value) (ys : List Int) (p : Nat) (w : World) (hr : Rr w rb rv ys p) :
  Calls Tryz.prog 106 #[.pointer (some ⟨rb, 0, none⟩)] w fun e w' => e = .returned (.bool (fillsB ys p)) /\ Tch (fun k => k = rb) w w' := by
 have HR : Hid (Rr w rb rv ys p) := hr
 obtain ⟨L, hL⟩ : ∃ L : Nat, 8 * ys.length - p = L := ⟨_, rfl⟩
 have hsm := hr.small
 have hle := hr.le
 have hLb : L <= 1125899906842624 := by omega
 have HL : Hid (8 * ys.length - p = L) := hL
 obtain ⟨z, hz⟩ : ∃ z, Hid (val (unpack ys) p L = z) := ⟨_, rfl⟩
 unfold fillsB
 rw [hL, hz.out]
 by_cases h8 : L < 8
 ·have HTA : Hid (∀ W, Rr W rb rv ys p -> Calls Tryz.prog 134 #[.pointer (some ⟨rb, 0, none⟩), .int .i64 (L : Int)] W fun e w' => e = .returned (.tuple #[.int .i64 z, .int .i64 0]) /\ Rr w' rb rv ys (p + L) /\ Tch (fun k => k = rb) W w') := fun W h => by
   have := zge9 rb rv ys p L W h (by omega) (by omega)
   rw [hz.out] at this
   exact this
  have HD : Hid (decide (L < 8 /\ z = 0) = (z == 0)) := by
   show _ = _
   by_cases e : z = 0
   ·simp [e, h8]
   ·simp [e]
  rw [HD.out]
  clear hr hL hsm hle HD
  go_enter Tryz.func106, Tryz.ntmps106
  go_wp2_with fail
  refine (zbt9 rb rv ys p w HR.out).mono ?_
  rintro e w1 ⟨rfl, q, hw1⟩
  rw [HL.out]
  have H1 : Hid (Rr w1 rb rv ys p) := by rw [hw1]; exact HR.out.tch (Tch.of_drewN (fun _ => False) w q) (fun e => e) (fun _ _ e => e)
  have T1 : Hid (Tch (fun k => k = rb) w w1) := by rw [hw1]; exact Tch.of_drewN _ w q
  have hL8 : ¬ (8 : Int) <= (L : Int) := by omega
  clear hw1 HR
  go_wp2_with fail
  refine (zbt9 rb rv ys p w1 H1.out).mono ?_
  rintro e w2 ⟨rfl, q, hw2⟩
  rw [HL.out]
  have H2 : Hid (Rr w2 rb rv ys p) := by rw [hw2]; exact H1.out.tch (Tch.of_drewN (fun _ => False) w1 q) (fun e => e) (fun _ _ e => e)
  have T2 : Hid (Tch (fun k => k = rb) w w2) := by rw [hw2]; exact T1.out.trans (Tch.of_drewN (fun k => k = rb) w1 q) (fun _ _ e => e)
  clear hw2 H1 T1
  go_wp2_with fail
  refine (HTA.out w2 H2.out).mono ?_
  clear HTA
  rintro e w3 ⟨rfl, _, ht3⟩
  have T3 : Hid (Tch (fun k => k = rb) w w3) := T2.out.trans ht3 (fun _ _ e => e)
  clear ht3 H2 T2
  go_wp2_with fail
  go_ret
  exact ⟨rfl, T3.out⟩
 ·have HD : Hid (decide (L < 8 /\ z = 0) = false) := by show _ = _; simp [h8]
  rw [HD.out]
  have hL8 : (8 : Int) <= (L : Int) := by omega
  clear hr hL hsm hle HD
  go_enter Tryz.func106, Tryz.ntmps106
  go_wp2_with fail
  refine (zbt9 rb rv ys p w HR.out).mono ?_
  rintro e w1 ⟨rfl, q, hw1⟩
  rw [HL.out]
  have T1 : Hid (Tch (fun k => k = rb) w w1) := by rw [hw1]; exact Tch.of_drewN _ w q
  clear hw1 HR
  go_wp2_with fail
  go_ret
  exact ⟨rfl, T1.out⟩
end Go.Proofs.YtobenjkacpipeaaGreat
