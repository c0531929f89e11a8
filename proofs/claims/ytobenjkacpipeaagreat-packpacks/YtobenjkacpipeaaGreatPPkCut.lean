import Derived.Test.YtobenjkacpipeaaGreatPMCut
import Derived.Test.YtobenjkacpipeaaGreatPHMayP
import Derived.Test.YtobenjkacpipeaaGreatPE64
import Derived.Test.YtobenjkacpipeaaGreatPNum
import Derived.Test.YtobenjkacpipeaaGreatPHKey
import Derived.Test.YtobenjkacpipeaaGreatPFSh1
set_option maxRecDepth 100000
set_option linter.unusedVariables false
set_option linter.unusedSimpArgs false
set_option maxHeartbeats 8000000
namespace Go.Proofs.YtobenjkacpipeaaGreat
open Go.RowKit Pl
structure Sl1 (t : TypeId) : Prop where
 under : Tryz.prog.underlying t = some (.slice (Tryz.prog.elem t))
 size : ∀ w, (sizeOf (Tryz.prog.elem t)).run Tryz.prog w = .ok 1 w
theorem sl8 : Sl1 22 := ⟨under8, size8⟩
theorem sl64 : Sl1 56 := by
 have e : Tryz.prog.elem 56 = 3 := by kernel_rfl
 refine ⟨by rw [e]; exact Tryz.underlying56, fun w => ?_⟩
 have h : (Tryz.prog.info? (Tryz.prog.elem 56)).map (·.size) = some 1 := by kernel_rfl
 obtain ⟨i, hi, hs⟩ := Option.map_eq_some_iff.1 h
 simp [sizeOf, typeInfo, hi, hs]
theorem zfc9 {b : Option Addr} {l m n cap : Nat} {k : Nat} (h : (sliced b l m cap 1).ownBlock = some k) : (Value.slice b n cap).ownBlock = some k := by
 unfold sliced at h
 cases b with
 | none => split at h <;> simp [Value.ownBlock] at h
 | some x =>
  by_cases c : cap = l
  ·rw [if_pos c] at h; exact h
  ·rw [if_neg c] at h
   have hb : (x.add (l * 1)).block = x.block := by unfold Addr.add; split <;> rfl
   have h' : some (x.add (l * 1)).block = some k := h
   rw [hb] at h'
   exact h'
theorem zcr9 {t : TypeId} (T : Sl1 t) {K : IntKind} (w w0 : World) {ops : Array Oper} {rest : List Oper} {o : Oper} {a : Act} {Q : Exit -> Act -> World -> Prop} (hgd : o.guard = none) (x l : Operand)
  (ho : o.op = .slice t x (some l) none none) (v : Value) (xs : List Int) (hv : a.eval x = v) (hr : Rd K w0 v xs) (m : Nat) (hl : a.eval l = .int .i64 (m : Int)) (hm : m <= xs.length)
  (h : ∀ v', Rd K w0 v' (xs.drop m) -> (∀ k, v'.ownBlock = some k -> v.ownBlock = some k) -> wpList Tryz.prog ops Q rest (a.put o.dst v') w) : wpList Tryz.prog ops Q (o :: rest) a w := by
 obtain ⟨b, cap, hb, _⟩ := id hr
 rw [hb] at hr
 have h2 := zct9 hr m xs.length hm (Nat.le_refl _)
 rw [show (xs.drop m).take (xs.length - m) = xs.drop m by rw [List.take_of_length_le]; rw [List.length_drop]; omega] at h2
 refine wpList_plain hgd fun K hK => ?_
 have hrun : (Instr.sliceAt t (.slice b xs.length cap) (some (.int .i64 (m : Int))) none none).run Tryz.prog w = .ok (sliced b m xs.length cap 1) w := by
  rw [run_sliceAt_slice _ _ _ _ _ _ T.under, run_slice_l _ _ _ _ _ T.under _ _ (by omega) (by omega), T.size]
  simp [Result.andThen]
 unfold Oper.wp execOp
 simp only [ho, hv, hl, hb, Option.map_some, Option.map_none, Sem.run_bind, hrun, Result.andThen_ok]
 exact hK _ _ (h _ h2 (fun k hk => by rw [hb]; exact zfc9 hk))
theorem zbs9 {t : TypeId} (T : Sl1 t) {K : IntKind} (w w0 : World) {ops : Array Oper} {rest : List Oper} {o : Oper} {a : Act} {Q : Exit -> Act -> World -> Prop} (hgd : o.guard = none) (x l : Operand)
  (ho : o.op = .slice t x none (some l) none) (v : Value) (xs : List Int) (hv : a.eval x = v) (hr : Rd K w0 v xs) (m : Nat) (hl : a.eval l = .int .i64 (m : Int)) (hm : m <= xs.length)
  (h : ∀ v', Rd K w0 v' (xs.take m) -> (∀ k, v'.ownBlock = some k -> v.ownBlock = some k) -> wpList Tryz.prog ops Q rest (a.put o.dst v') w) : wpList Tryz.prog ops Q (o :: rest) a w := by
 obtain ⟨b, cap, hb, hcap, _⟩ := id hr
 rw [hb] at hr
 have h2 := zct9 hr 0 m (Nat.zero_le _) hm
 rw [List.drop_zero, Nat.sub_zero] at h2
 refine wpList_plain hgd fun K hK => ?_
 have hrun : (Instr.sliceAt t (.slice b xs.length cap) none (some (.int .i64 (m : Int))) none).run Tryz.prog w = .ok (sliced b 0 m cap 1) w := by
  rw [run_sliceAt_slice _ _ _ _ _ _ T.under, run_slice_h _ _ _ _ _ T.under _ _ (by omega) (by omega), T.size]
  simp [Result.andThen]
 unfold Oper.wp execOp
 simp only [ho, hv, hl, hb, Option.map_some, Option.map_none, Sem.run_bind, hrun, Result.andThen_ok]
 exact hK _ _ (h _ h2 (fun k hk => by rw [hb]; exact zfc9 hk))
def zc : Nat -> List Int -> Nat
 | 0, _ => 0
 | _ + 1, [] => 0
 | m + 1, x :: r => if x = 0 then zc m r + 1 else 0
theorem zc_le : ∀ (m : Nat) (l : List Int), zc m l <= m /\ zc m l <= l.length
 | 0, _ => by simp [zc]
 | _ + 1, [] => by simp [zc]
 | m + 1, x :: r => by
  have := zc_le m r
  simp only [zc]
  split <;> simp <;> omega
theorem zty9 : ∀ (m : Nat) (l : List Int) (i : Nat), i < zc m l -> l.getD i 0 = 0
 | 0, _, i, h => by simp [zc] at h
 | _ + 1, [], i, h => by simp [zc] at h
 | m + 1, x :: r, i, h => by
  simp only [zc] at h
  split at h
  ·rename_i e
   cases i with
   | zero => simpa using e
   | succ i => simpa using zty9 m r i (by omega)
  ·omega
theorem zux9 : ∀ (m : Nat) (l : List Int), zc m l < m -> zc m l < l.length -> l.getD (zc m l) 0 ≠ 0
 | 0, _, h, _ => by simp [zc] at h
 | _ + 1, [], _, h => by simp [zc] at h
 | m + 1, x :: r, h, h2 => by
  by_cases e : x = 0
  ·have ez : zc (m + 1) (x :: r) = zc m r + 1 := by simp [zc, e]
   rw [ez] at h h2 ⊢
   have := zux9 m r (by omega) (by simp at h2; omega)
   simpa using this
  ·have ez : zc (m + 1) (x :: r) = 0 := by simp [zc, e]
   rw [ez]
   simpa using e
theorem zc_eq (m : Nat) (l : List Int) (n : Nat) (h1 : n <= m) (h2 : n <= l.length) (h3 : ∀ i, i < n -> l.getD i 0 = 0) (h4 : ¬ (n < l.length /\ n < m /\ l.getD n 0 = 0)) : zc m l = n := by
 have a := zc_le m l
 rcases Nat.lt_trichotomy (zc m l) n with h | h | h
 ·exact absurd (h3 _ h) (zux9 m l (by omega) (by omega))
 ·exact h
 ·exact absurd ⟨by omega, by omega, zty9 m l n h⟩ h4
def ptL : Nat -> List Int -> List Int
 | 0, _ => []
 | _ + 1, [] => []
 | f + 1, x :: r => if x = 0 then bitsOf 0 4 ++ bitsOf ((zc 16 (x :: r) : Int) - 1) 4 ++ ptL f ((x :: r).drop (zc 16 (x :: r))) else bitsOf x 4 ++ ptL f r
theorem zpp9 : ∀ (f : Nat) (l : List Int), (ptL f l).length <= 8 * f
 | 0, _ => by simp [ptL]
 | f + 1, [] => by simp [ptL]
 | f + 1, x :: r => by
  simp only [ptL]
  split
  ·have := zpp9 f ((x :: r).drop (zc 16 (x :: r)))
   simp only [List.length_append, za9]
   omega
  ·have := zpp9 f r
   simp only [List.length_append, za9]
   omega
theorem zuk9 (f : Nat) : ptL f [] = [] := by cases f <;> rfl
def ptBits (ls : List Int) : List Int := bitsOf ((ls.length : Int) - 1) 8 ++ ptL ls.length ls
theorem zcz9 (ls : List Int) : (ptBits ls).length <= 8 + 8 * ls.length := by
 have := zpp9 ls.length ls
 simp only [ptBits, List.length_append, za9]
 omega
def tl (bs : List Int) (L less : Nat) : Nat -> Nat -> List Int -> Bool -> Int × List Int × Nat
 | 0, p, l, _ => (0, l, p)
 | f + 1, p, l, c =>
  if less < l.length then (0, l, p)
  else if L - p < 4 then (3, [], p)
  else if 0 < val bs p 4 then tl bs L less f (p + 4) (l ++ [val bs p 4]) false
  else if L - (p + 4) < 4 then (3, [], p)
  else if c = true ∨ less + 1 < l.length + ((val bs (p + 4) 4).toNat + 1) then (4, [], p)
  else tl bs L less f (p + 8) (l ++ List.replicate ((val bs (p + 4) 4).toNat + 1) 0) (decide ((val bs (p + 4) 4).toNat + 1 < 16))
def tabL (ys : List Int) : Int × List Int × Nat :=
 if 8 * ys.length < 8 then (3, [], 0) else tl (unpack ys) (8 * ys.length) (val (unpack ys) 0 8).toNat ((val (unpack ys) 0 8).toNat + 2) 8 [] false
def tabR (ys : List Int) : Int × List Int × Nat :=
 if (tabL ys).1 ≠ 0 then ((tabL ys).1, [], 0)
 else if val (unpack ys) (tabL ys).2.2 ((8 * ys.length - (tabL ys).2.2) % 8) ≠ 0 ∨ mayC (tabL ys).2.1 = false then (4, [], 0)
 else (0, (tabL ys).2.1, ys.length - (8 * ys.length - (tabL ys).2.2) / 8)
theorem zsk9 (ys : List Int) : (tabR ys).2.2 <= ys.length := by
 unfold tabR
 split
 ·exact Nat.zero_le _
 ·split
  ·exact Nat.zero_le _
  ·simp
theorem zxv9 {ys : List Int} (h : (tabR ys).1 ≠ 0) : (tabR ys).2.1 = [] /\ (tabR ys).2.2 = 0 := by
 unfold tabR at h ⊢
 split
 ·exact ⟨rfl, rfl⟩
 ·rename_i h1
  rw [if_neg h1] at h
  split
  ·exact ⟨rfl, rfl⟩
  ·rename_i h2
   rw [if_neg h2] at h
   exact absurd rfl h
theorem val4 (ys : List Int) (p : Nat) : 0 <= val (unpack ys) p 4 /\ val (unpack ys) p 4 <= 15 := by
 have := val_bd (zt9 ys) p 4
 have e : (2 : Int) ^ 4 = 16 := by decide
 omega
theorem val8 (ys : List Int) (p : Nat) : 0 <= val (unpack ys) p 8 /\ val (unpack ys) p 8 <= 255 := by
 have := val_bd (zt9 ys) p 8
 have e : (2 : Int) ^ 8 = 256 := by decide
 omega
theorem zgz9 (b o cap : Nat) (ls : List Int) (w : World) (hl : ls.length <= 256) (hc : ∀ i, i < ls.length -> w.cell? ⟨b, o + i, none⟩ = some (.int .i64 (ls.getD i 0))) :
  Calls Tryz.prog 112 #[.slice (some ⟨b, o, none⟩) ls.length cap] w fun e w' => e = .returned (.int .i64 (zc 16 ls : Int)) /\ w' = w := by
 have HC : Hid (∀ i, i < ls.length -> w.cell? ⟨b, o + i, none⟩ = some (.int .i64 (ls.getD i 0))) := hc
 clear hc
 go_enter Tryz.func112, Tryz.ntmps112
 go_wp2
 go_loop [3] (fun n => ∃ k : Nat, k <= 16 /\ k <= ls.length /\ n = .int .i64 k /\ Hid (∀ i, i < k -> ls.getD i 0 = 0)) (fun n => 16 - (intOf n).toNat)
 case atStart => exact ⟨0, by omega, Nat.zero_le _, rfl, fun i hi => by omega⟩
 case round =>
  obtain ⟨k, hk, hk2, rfl, HZ⟩ := hrel
  by_cases hlt : k < ls.length
  ·by_cases h16 : k < 16
   ·obtain ⟨x, hx⟩ : ∃ x, Hid (ls.getD k 0 = x) := ⟨_, rfl⟩
    have cx : w.cell? ⟨b, o + k, none⟩ = some (.int .i64 x) := by rw [HC.out k hlt, hx.out]
    by_cases h0 : x = 0
    ·have h0b : (x == 0) = true := by simp [h0]
     have HZ2 : Hid (∀ i, i < k + 1 -> ls.getD i 0 = 0) := fun i hi => by
      by_cases e : i < k
      ·exact HZ.out i e
      ·obtain rfl : i = k := by omega
       rw [hx.out, h0]
     clear h0
     go_wp2
     go_round
     case rel => exact ⟨k + 1, by omega, by omega, by go_num, HZ2⟩
     case measure => simp [intOf]; omega
    ·have h0b : (x == 0) = false := by simp [h0]
     have HE : Hid (zc 16 ls = k) := zc_eq 16 ls k hk hk2 HZ.out (fun ⟨_, _, e⟩ => h0 (by rw [hx.out] at e; exact e))
     clear h0
     go_wp2
     go_ret
     exact ⟨by rw [HE.out]; rfl, rfl⟩
   ·have HE : Hid (zc 16 ls = k) := zc_eq 16 ls k hk hk2 HZ.out (fun ⟨_, e, _⟩ => h16 e)
    have h16' : decide ((k : Int) < 16) = false := by rw [decide_eq_false_iff_not]; omega
    go_wp2
    go_ret
    exact ⟨by rw [HE.out]; rfl, rfl⟩
  ·have HE : Hid (zc 16 ls = k) := zc_eq 16 ls k hk hk2 HZ.out (fun ⟨e, _, _⟩ => hlt e)
   have hlt' : decide (k < ls.length) = false := by rw [decide_eq_false_iff_not]; omega
   go_wp2
   go_ret
   exact ⟨by rw [HE.out]; rfl, rfl⟩
def slen : Value -> Nat
 | .slice _ n _ => n
 | _ => 0
def PTPost (ls : List Int) (w : World) (e : Ending) (w' : World) : Prop :=
 ∃ rv E, e = .returned (.tuple #[rv, .int .i64 E]) /\ Below w.heap.size w w' /\ (∀ k, rv.ownBlock = some k -> w.heap.size <= k) ∧
  ((E = 4 /\ rv = .slice none 0 0 /\ mayC ls = false) ∨ (E = 0 /\ mayC ls = true /\ Owns .u8 5 w' rv (pack (ptBits ls))))
structure Pts (w W : World) (b : Nat) (rv lv : Value) (ls bs : List Int) (j : Nat) : Prop where
 wr : Wr W b rv bs
 rd : Rd .i64 W lv (ls.drop j)
 old : ∀ k, lv.ownBlock = some k -> k < w.heap.size
 bel : Below w.heap.size w W
 bn : w.heap.size <= b
 rn : ∀ k, rv.ownBlock = some k -> w.heap.size <= k
theorem Pts.put {w W W' : World} {b : Nat} {rv rv' lv : Value} {ls bs xs : List Int} {j : Nat} (h : Pts w W b rv lv ls bs j) (hp : WrTo W b rv W' rv' xs) : Pts w W' b rv' lv ls xs j := by
 refine ⟨hp.wr, h.rd.tch hp.tch (fun k hk => ?_), h.old, h.bel.trans (hp.tch.below h.bel.size (fun k hk => ?_)), h.bn, fun k hk => ?_⟩
 ·have h1 := h.old k hk
  rintro (e | e)
  ·have := h.bn; omega
  ·have := h.rn k e; omega
 ·rcases hk with e | e
  ·rw [e]; exact h.bn
  ·exact h.rn k e
 ·rcases hp.fresh k hk with e | e
  ·exact h.rn k e
  ·have := h.bel.size; omega
theorem zte9 {f : Nat} {x : Int} {r : List Int} (h : x = 0) : ptL (f + 1) (x :: r) = bitsOf 0 4 ++ bitsOf ((zc 16 (x :: r) : Int) - 1) 4 ++ ptL f ((x :: r).drop (zc 16 (x :: r))) := by
 simp only [ptL]; rw [if_pos h]
theorem ztk9 {f : Nat} {x : Int} {r : List Int} (h : x ≠ 0) : ptL (f + 1) (x :: r) = bitsOf x 4 ++ ptL f r := by
 simp only [ptL]; rw [if_neg h]
theorem zhd9 (ls : List Int) (j : Nat) (h : j < ls.length) : ls.drop j = ls.getD j 0 :: ls.drop (j + 1) := by
 rw [List.drop_eq_getElem_cons h]
 simp [List.getD_eq_getElem?_getD, h]
set_option maxRecDepth 100000 in
theorem zkn9 (lv : Value) (ls : List Int) (w : World) (hr : Rd .i64 w lv ls) (hold : ∀ k, lv.ownBlock = some k -> k < w.heap.size) :
  Calls Tryz.prog 84 #[lv] w fun e w' => PTPost ls w e w' := by
 have HR : Hid (Rd .i64 w lv ls) := hr
 cases hm : mayC ls with
 | false =>
  have HM : Hid (mayC ls = false) := hm
  clear hm hr
  go_enter Tryz.func84, Tryz.ntmps84
  go_wp2_with fail
  refine (zbx9 lv ls w HR.out).mono ?_
  rintro e w1 ⟨rfl, rfl⟩
  rw [HM.out]
  go_wp2_with fail
  go_ret2
  exact ⟨_, 4, rfl, Below.refl _ _, (fun k e => by cases e), .inl ⟨rfl, rfl, HM.out⟩⟩
 | true =>
  have HM : Hid (mayC ls = true) := hm
  have HOLD : Hid (∀ k, lv.ownBlock = some k -> k < w.heap.size) := hold
  obtain ⟨h256, heach, hlast⟩ : ls.length <= 256 /\ (∀ i, i < ls.length -> 0 <= ls.getD i 0 /\ ls.getD i 0 <= 11) /\ 1 <= ls.length := by
   have hm2 := hm
   unfold mayC at hm2
   rw [decide_eq_true_eq] at hm2
   refine ⟨hm2.1, hm2.2.1, ?_⟩
   by_cases h0 : ls.length = 0
   ·exfalso
    have e := hm2.2.2
    rw [h0] at e
    simp [manyTo, roomTo] at e
   ·omega
  have HE : Hid (∀ i, i < ls.length -> 0 <= ls.getD i 0 /\ ls.getD i 0 <= 11) := heach
  obtain ⟨a, cap, rfl, hlc, hcm, hnil, _⟩ := hr
  clear hm hold heach hnil
  obtain ⟨n, hn⟩ : ∃ n, ls.length = n + 1 := ⟨ls.length - 1, by omega⟩
  have HN : Hid (ls.length = n + 1) := hn
  rw [hn] at hlc h256 ⊢
  clear hn hlast
  go_enter Tryz.func84, Tryz.ntmps84
  have HR2 : Hid (Rd .i64 w (.slice a (n + 1) cap) ls) := by have := HR.out; rw [HN.out] at this; exact this
  go_wp2_with fail
  refine (zbx9 _ ls w HR2.out).mono ?_
  rintro e w1 ⟨rfl, rfl⟩
  rw [HM.out]
  go_wp2_with fail
  refine (zbd9 w1).mono ?_
  rintro e w2 ⟨rfl, hw2, hb2⟩
  obtain ⟨b, hb⟩ : ∃ b, w1.heap.size = b := ⟨_, rfl⟩
  have P2 : Hid (Pts w1 w2 b (.slice none 0 0) (.slice a (n + 1) cap) ls [] 0) := by
   rw [hb] at hw2
   exact ⟨hw2, by simpa using HR2.out.below hb2, by have := HOLD.out; rw [HN.out] at this; exact this, hb2, by omega, (fun k e => by cases e)⟩
  have HB1 : Hid (w1.heap.size = b) := hb
  rw [hb]
  clear hw2 hb2 hb
  have e8 : (2 : Int) ^ 8 = 256 := by decide
  have hsub : ((n : Int) + 1 - 1) = (n : Int) := by omega
  go_wp2_with fail
  refine (put_ok b (.slice none 0 0) 8 (n : Int) [] w2 P2.out.wr (by simp) (by omega) (by omega) (by omega)).mono ?_
  rintro e w3 ⟨rfl, rv3, h3⟩
  have P3 : Hid (Pts w1 w3 b rv3 (.slice a (n + 1) cap) ls (bitsOf (n : Int) 8) 0) := by have h := P2.out.put h3; simp only [List.nil_append] at h; exact h
  have HBT : Hid (bitsOf (n : Int) 8 ++ ptL (n + 1) (ls.drop 0) = ptBits ls) := by
   show _ = _
   unfold ptBits
   rw [HN.out, show (((n + 1 : Nat) : Int) - 1) = (n : Int) by omega, List.drop_zero]
  clear h3 P2 e8 hsub
  go_wp2_with fail
  go_loopw [0] (fun v wr => ∃ (j f : Nat) (rv : Value) (bs : List Int), j <= n + 1 /\ n + 1 <= f + j /\ Hid (Pts w1 wr b rv v ls bs j) /\ Hid (bs ++ ptL f (ls.drop j) = ptBits ls)) (fun v _ => slen v)
  case atStart => exact ⟨0, n + 1, rv3, _, Nat.zero_le _, by omega, P3, HBT⟩
  case round =>
   clear P3 HBT HR2
   obtain ⟨j, f, rv, bs, hj, hf, P, HB⟩ := hrel
   obtain ⟨a2, cap2, hv, hl2, hm2, _, hc2⟩ := P.out.rd
   have hlen : (ls.drop j).length = n + 1 - j := by rw [List.length_drop, HN.out]
   have HBL : Hid (bs.length <= 4096) := by
    show _ <= _
    have h1 := congrArg List.length HB.out
    have h2 := zcz9 ls
    rw [List.length_append] at h1
    rw [HN.out] at h2
    omega
   by_cases hjn : j < n + 1
   ·obtain ⟨m, hm⟩ : ∃ m, (ls.drop j).length = m + 1 := ⟨n - j, by omega⟩
    obtain ⟨ab, ao, ha, hcc⟩ : ∃ b o, a2 = some ⟨b, o, none⟩ /\ ∀ i, i < (ls.drop j).length -> wr.cell? ⟨b, o + i, none⟩ = some (.int .i64 ((ls.drop j).getD i 0)) := by
     rcases hc2 with h | h
     ·rw [h] at hm; simp at hm
     ·exact h
    subst ha
    obtain ⟨x, hx⟩ : ∃ x, Hid (ls.getD j 0 = x) := ⟨_, rfl⟩
    have hdc := zhd9 ls j (by rw [HN.out]; exact hjn)
    rw [hx.out] at hdc
    obtain ⟨r, hr⟩ : ∃ r, Hid (ls.drop (j + 1) = r) := ⟨_, rfl⟩
    rw [hr.out] at hdc
    have HDC : Hid (ls.drop j = x :: r) := hdc
    have c0 : wr.cell? ⟨ab, ao + 0, none⟩ = some (.int .i64 x) := by rw [hcc 0 (by omega), hdc]; rfl
    have c0' : wr.cell? ⟨ab, ao, none⟩ = some (.int .i64 x) := c0
    have hxb := HE.out j (by rw [HN.out]; exact hjn)
    rw [hx.out] at hxb
    rw [hm] at hv hl2
    subst hv
    have HCC : Hid (∀ i, i < m + 1 -> wr.cell? ⟨ab, ao + i, none⟩ = some (.int .i64 ((x :: r).getD i 0))) := fun i hi => by rw [<- hdc]; exact hcc i (by omega)
    have HRL : Hid (r.length = m) := by show _ = _; have := congrArg List.length hdc; rw [hm] at this; simp at this; omega
    obtain ⟨f', rfl⟩ : ∃ f', f = f' + 1 := ⟨f - 1, by omega⟩
    have HJM : Hid (j + (m + 1) = n + 1) := by show _ = _; omega
    clear hc2 hcc hdc hm hlen c0
    by_cases h0 : x = 0
    ·subst h0
     obtain ⟨z, hz⟩ : ∃ z, Hid (zc 16 ((0 : Int) :: r) = z) := ⟨_, rfl⟩
     have hzb : 1 <= z /\ z <= 16 /\ z <= m + 1 := by
      have h1 := zc_le 16 ((0 : Int) :: r)
      have h2 : zc 16 ((0 : Int) :: r) = zc 15 r + 1 := by simp [zc]
      have h3 := HRL.out
      rw [hz.out] at h1 h2
      simp only [List.length_cons] at h1
      omega
     have hB2 := HB.out
     rw [HDC.out, zte9 rfl, hz.out] at hB2
     have HB2 : Hid ((bs ++ bitsOf 0 4) ++ bitsOf ((z : Int) - 1) 4 ++ ptL f' (ls.drop (j + z)) = ptBits ls) := by
      show _ = _
      rw [<- hB2, <- HDC.out, List.drop_drop]
      simp [List.append_assoc]
     clear hB2 HB
     have e4 : (2 : Int) ^ 4 = 16 := by decide
     go_wp2_with fail
     refine (put_ok b rv 4 0 bs wr P.out.wr (by have := HBL.out; omega) (by omega) (by omega) (by omega)).mono ?_
     rintro e w4 ⟨rfl, rv4, h4⟩
     have P4 : Hid (Pts w1 w4 b rv4 (.slice (some ⟨ab, ao, none⟩) (m + 1) cap2) ls (bs ++ bitsOf 0 4) j) := P.out.put h4
     have HC4 : Hid (∀ i, i < m + 1 -> w4.cell? ⟨ab, ao + i, none⟩ = some (.int .i64 (((0 : Int) :: r).getD i 0))) := fun i hi => by
      have h1 := HCC.out i hi
      rw [h4.tch.cell (p := ⟨ab, ao + i, none⟩) (World.block_lt_of_cell? wr ⟨ab, ao + i, none⟩ h1) ?_]
      ·exact h1
      ·have h2 := P.out.old ab rfl
       rintro (e | e)
       ·have := P.out.bn; simp only at e; omega
       ·have := P.out.rn _ e; simp only at this; omega
     have d0 : w4.cell? ⟨ab, ao, none⟩ = some (.int .i64 0) := HC4.out 0 (by omega)
     clear h4 P HCC c0'
     have hZA := zgz9 ab ao cap2 ((0 : Int) :: r) w4 (by simp only [List.length_cons]; rw [HRL.out]; have := HJM.out; omega) (by simp only [List.length_cons]; rw [HRL.out]; exact HC4.out)
     rw [hz.out] at hZA
     simp only [List.length_cons] at hZA
     rw [HRL.out] at hZA
     have HZA : Hid (Calls Tryz.prog 112 #[.slice (some ⟨ab, ao, none⟩) (m + 1) cap2] w4 fun e w' => e = .returned (.int .i64 (z : Int)) /\ w' = w4) := hZA
     clear hZA
     go_wp2_with fail
     refine HZA.out.mono ?_
     clear HZA
     rintro e w5 ⟨rfl, rfl⟩
     have hz1 : ((z : Int) - 1) < 16 := by omega
     go_wp2_with fail
     refine (put_ok b rv4 4 ((z : Int) - 1) (bs ++ bitsOf 0 4) w5 P4.out.wr (by have := HBL.out; rw [List.length_append, za9]; omega) (by omega) (by omega) (by omega)).mono ?_
     rintro e w6 ⟨rfl, rv6, h6⟩
     have P6 : Hid (Pts w1 w6 b rv6 (.slice (some ⟨ab, ao, none⟩) (m + 1) cap2) ls (bs ++ bitsOf 0 4 ++ bitsOf ((z : Int) - 1) 4) j) := P4.out.put h6
     clear h6 P4 d0 HC4
     go_wp2_with (with_reducible (show wpList _ _ _ (Oper.mk _ (Op.slice _ _ _ _ _) _ _ _ _ :: _) _ _); refine zcr9 sl64 _ w6 rfl (.tmp 33) (.tmp 34) rfl _ (ls.drop j) rfl P6.out.rd z rfl (by rw [HDC.out, List.length_cons, HRL.out]; omega) ?_)
     intro v7 hr7 hb7
     have P7 : Hid (Pts w1 w6 b rv6 v7 ls (bs ++ bitsOf 0 4 ++ bitsOf ((z : Int) - 1) 4) (j + z)) := by
      refine ⟨P6.out.wr, ?_, fun k hk => P6.out.old k (hb7 k hk), P6.out.bel, P6.out.bn, P6.out.rn⟩
      first | exact hr7 | (rw [List.drop_drop] at hr7; exact hr7)
     have HML : Hid (slen v7 < m + 1) := by
      show _ < _
      obtain ⟨_, _, e, _⟩ := hr7
      rw [e]
      simp only [slen, List.length_drop]
      have := HN.out
      have := HJM.out
      omega
     clear hr7 hb7 P6
     go_wp2_with fail
     go_roundw
     case rel => exact ⟨j + z, f', rv6, _, by have := HJM.out; omega, by omega, P7, HB2⟩
     case measure => exact HML.out
    ·have h0b : (x == 0) = false := by simp [h0]
     have hB2 := HB.out
     rw [HDC.out, ztk9 h0, <- hr.out] at hB2
     have HB2 : Hid (bs ++ bitsOf x 4 ++ ptL f' (ls.drop (j + 1)) = ptBits ls) := by
      show _ = _
      rw [<- hB2, List.append_assoc]
     clear hB2 HB h0
     have e4 : (2 : Int) ^ 4 = 16 := by decide
     go_wp2_with fail
     refine (put_ok b rv 4 x bs wr P.out.wr (by have := HBL.out; omega) (by omega) (by omega) (by omega)).mono ?_
     rintro e w4 ⟨rfl, rv4, h4⟩
     have P4 : Hid (Pts w1 w4 b rv4 (.slice (some ⟨ab, ao, none⟩) (m + 1) cap2) ls (bs ++ bitsOf x 4) j) := P.out.put h4
     have d0 : w4.cell? ⟨ab, ao, none⟩ = some (.int .i64 x) := by
      rw [h4.tch.cell (p := ⟨ab, ao, none⟩) (World.block_lt_of_cell? wr ⟨ab, ao, none⟩ c0') ?_]
      ·exact c0'
      ·have h2 := P.out.old ab rfl
       rintro (e | e)
       ·have := P.out.bn; simp only at e; omega
       ·have := P.out.rn _ e; simp only at this; omega
     clear h4 P HCC c0'
     go_wp2_with (with_reducible (show wpList _ _ _ (Oper.mk _ (Op.slice _ _ _ _ _) _ _ _ _ :: _) _ _); refine zcr9 sl64 _ w4 rfl (.tmp 33) (.tmp 34) rfl _ (ls.drop j) rfl P4.out.rd 1 rfl (by rw [HDC.out, List.length_cons, HRL.out]; omega) ?_)
     intro v7 hr7 hb7
     have P7 : Hid (Pts w1 w4 b rv4 v7 ls (bs ++ bitsOf x 4) (j + 1)) := by
      refine ⟨P4.out.wr, ?_, fun k hk => P4.out.old k (hb7 k hk), P4.out.bel, P4.out.bn, P4.out.rn⟩
      first | exact hr7 | (rw [List.drop_drop] at hr7; exact hr7)
     have HML : Hid (slen v7 < m + 1) := by
      show _ < _
      obtain ⟨_, _, e, _⟩ := hr7
      rw [e]
      simp only [slen, List.length_drop]
      have := HN.out
      have := HJM.out
      omega
     clear hr7 hb7 P4
     go_wp2_with fail
     go_roundw
     case rel => exact ⟨j + 1, f', rv4, _, by have := HJM.out; omega, by omega, P7, HB2⟩
     case measure => exact HML.out
   ·obtain rfl : j = n + 1 := by omega
    have hnil : ls.drop (n + 1) = [] := List.drop_eq_nil_of_le (by rw [HN.out]; omega)
    rw [hnil] at hv
    simp only [List.length_nil] at hv
    subst hv
    have HPB : Hid (bs = ptBits ls) := by
     show _ = _
     have h := HB.out
     rw [hnil, zuk9, List.append_nil] at h
     exact h
    clear hc2 hlen hl2 hnil HB
    go_wp2_with fail
    refine (zgn9 b rv bs wr P.out.wr (by have := HBL.out; omega)).mono ?_
    rintro e w6 ⟨v6, rfl, ho6, hb6, hf6⟩
    go_wp2_with fail
    go_ret2
    refine ⟨v6, 0, rfl, P.out.bel.trans (hb6.mono P.out.bel.size), fun k hk => Nat.le_trans P.out.bel.size (hf6 k hk), .inr ⟨rfl, HM.out, ?_⟩⟩
    rw [<- HPB.out]
    exact ho6
end Go.Proofs.YtobenjkacpipeaaGreat
namespace Go.Proofs.YtobenjkacpipeaaGreat
open Go.RowKit Pl Go.Maps Go.WideMaps
theorem zge9 (b : Nat) (rv : Value) (ys : List Int) (p n : Nat) (w : World) (h : Rr w b rv ys p) (hn : n <= 32) (hl : p + n <= 8 * ys.length) :
  Calls Tryz.prog 134 #[.pointer (some ⟨b, 0, none⟩), .int .i64 (n : Int)] w fun e w' =>
   e = .returned (.tuple #[.int .i64 (val (unpack ys) p n), .int .i64 0]) /\ Rr w' b rv ys (p + n) /\ Tch (fun k => k = b) w w' := by
 have h1 := zeo9 b rv ys p (n : Int) w h
 have e1 : tkE (8 * ys.length - p) (n : Int) = 0 := by unfold tkE; rw [if_neg (by omega), if_neg (by omega)]
 have e2 : tkV (unpack ys) (8 * ys.length - p) p (n : Int) = val (unpack ys) p n := by unfold tkV; rw [if_neg (by omega), if_neg (by omega)]; rfl
 have e3 : tkN (8 * ys.length - p) (n : Int) = n := by unfold tkN; rw [if_neg (by omega), if_neg (by omega)]; rfl
 rw [e1, e2, e3] at h1
 exact h1
theorem zmd9 (b : Nat) (rv : Value) (ys : List Int) (p n : Nat) (w : World) (h : Rr w b rv ys p) (hn : n <= 32) (hl : 8 * ys.length < p + n) :
  Calls Tryz.prog 134 #[.pointer (some ⟨b, 0, none⟩), .int .i64 (n : Int)] w fun e w' =>
   e = .returned (.tuple #[.int .i64 0, .int .i64 3]) /\ Rr w' b rv ys p /\ Tch (fun k => k = b) w w' := by
 have hle := h.le
 have h1 := zeo9 b rv ys p (n : Int) w h
 have e1 : tkE (8 * ys.length - p) (n : Int) = 3 := by unfold tkE; rw [if_neg (by omega), if_pos (by omega)]
 have e2 : tkV (unpack ys) (8 * ys.length - p) p (n : Int) = 0 := by unfold tkV; rw [if_neg (by omega), if_pos (by omega)]
 have e3 : tkN (8 * ys.length - p) (n : Int) = 0 := by unfold tkN; rw [if_neg (by omega), if_pos (by omega)]
 rw [e1, e2, e3] at h1
 exact h1
theorem zjn9 (b : Nat) (rv : Value) (ys : List Int) (p : Nat) (w : World) (h : Rr w b rv ys p) (hl : p + 4 <= 8 * ys.length) :
  Calls Tryz.prog 158 #[.pointer (some ⟨b, 0, none⟩)] w fun e w' =>
   e = .returned (.tuple #[.int .i64 (val (unpack ys) p 4 + 1), .int .i64 0]) /\ Rr w' b rv ys (p + 4) /\ Tch (fun k => k = b) w w' := by
 have H : Hid (Rr w b rv ys p) := h
 have hv := val4 ys p
 obtain ⟨x, hx⟩ : ∃ x, Hid (val (unpack ys) p 4 = x) := ⟨_, rfl⟩
 rw [hx.out] at hv ⊢
 clear h
 go_enter Tryz.func158, Tryz.ntmps158
 go_wp2_with fail
 refine (zge9 b rv ys p 4 w H.out (by decide) hl).mono ?_
 rintro e w1 ⟨rfl, hr, ht⟩
 rw [hx.out]
 have HR : Hid (Rr w1 b rv ys (p + 4)) := hr
 have HT : Hid (Tch (fun k => k = b) w w1) := ht
 clear hr ht
 go_wp2_with fail
 go_ret2
 exact ⟨rfl, HR.out, HT.out⟩
theorem zjs9 (b : Nat) (rv : Value) (ys : List Int) (p : Nat) (w : World) (h : Rr w b rv ys p) (hl : 8 * ys.length < p + 4) :
  Calls Tryz.prog 158 #[.pointer (some ⟨b, 0, none⟩)] w fun e w' =>
   e = .returned (.tuple #[.int .i64 0, .int .i64 3]) /\ Rr w' b rv ys p /\ Tch (fun k => k = b) w w' := by
 have H : Hid (Rr w b rv ys p) := h
 clear h
 go_enter Tryz.func158, Tryz.ntmps158
 go_wp2_with fail
 refine (zmd9 b rv ys p 4 w H.out (by decide) hl).mono ?_
 rintro e w1 ⟨rfl, hr, ht⟩
 have HR : Hid (Rr w1 b rv ys p) := hr
 have HT : Hid (Tch (fun k => k = b) w w1) := ht
 clear hr ht
 go_wp2_with fail
 go_ret2
 exact ⟨rfl, HR.out, HT.out⟩
theorem zoz9 (rb : Nat) (rv : Value) (ys : List Int) (p : Nat) (w : World) (hr : Rr w rb rv ys p) :
  Calls Tryz.prog 147 #[.pointer (some ⟨rb, 0, none⟩)] w fun e w' => e = .returned (.bool (val (unpack ys) p ((8 * ys.length - p) % 8) == 0)) /\ Rr w' rb rv ys (p + (8 * ys.length - p) % 8) /\ Tch (fun k => k = rb) w w' := by
 have HR : Hid (Rr w rb rv ys p) := hr
 obtain ⟨L, hL⟩ : ∃ L : Nat, 8 * ys.length - p = L := ⟨_, rfl⟩
 have hsm := hr.small
 have hle := hr.le
 have hLb : L <= 1125899906842624 := by omega
 have HL : Hid (8 * ys.length - p = L) := hL
 obtain ⟨z, hz⟩ : ∃ z, Hid (val (unpack ys) p (L % 8) = z) := ⟨_, rfl⟩
 rw [hL, hz.out]
 have HTA : Hid (∀ W, Rr W rb rv ys p -> Calls Tryz.prog 134 #[.pointer (some ⟨rb, 0, none⟩), .int .i64 ((L % 8 : Nat) : Int)] W fun e w' => e = .returned (.tuple #[.int .i64 z, .int .i64 0]) /\ Rr w' rb rv ys (p + L % 8) /\ Tch (fun k => k = rb) W w') := fun W h => by
  have := zge9 rb rv ys p (L % 8) W h (by omega) (by omega)
  rw [hz.out] at this
  exact this
 clear hr hL hsm hle
 have hrem : ((L : Int)).tmod 8 = ((L % 8 : Nat) : Int) := by rw [Int.tmod_eq_emod_of_nonneg (by omega)]; omega
 go_enter Tryz.func147, Tryz.ntmps147
 go_wp2_with fail
 refine (zbt9 rb rv ys p w HR.out).mono ?_
 rintro e w1 ⟨rfl, q, hw1⟩
 rw [HL.out]
 have H1 : Hid (Rr w1 rb rv ys p) := by rw [hw1]; exact HR.out.tch (Tch.of_drewN (fun _ => False) w q) (fun e => e) (fun _ _ e => e)
 have T1 : Hid (Tch (fun k => k = rb) w w1) := by rw [hw1]; exact Tch.of_drewN _ w q
 clear hw1
 go_wp2_with fail
 refine (HTA.out w1 H1.out).mono ?_
 clear HTA
 rintro e w2 ⟨rfl, hr2, ht2⟩
 have T2 : Hid (Tch (fun k => k = rb) w w2) := T1.out.trans ht2 (fun _ _ e => e)
 have R2 : Hid (Rr w2 rb rv ys (p + L % 8)) := hr2
 clear ht2 hr2
 go_wp2_with fail
 go_ret
 exact ⟨rfl, R2.out, T2.out⟩
structure Tls (w W : World) (rb : Nat) (rv d : Value) (ys l : List Int) (p : Nat) : Prop where
 rr : Rr W rb rv ys p
 own : Owns .i64 3 W d l
 tch : Tch (fun k => k = rb) w W
 dn : ∀ k, d.ownBlock = some k -> w.heap.size <= k
 rl : rb < w.heap.size
 vl : ∀ k, rv.ownBlock = some k -> k < w.heap.size
theorem Tls.moved {w W W' : World} {rb : Nat} {rv d : Value} {ys l : List Int} {p q : Nat} (h : Tls w W rb rv d ys l p) (hr : Rr W' rb rv ys q) (ht : Tch (fun k => k = rb) W W') : Tls w W' rb rv d ys l q :=
 ⟨hr, h.own.tch ht (fun j hj e => by have := h.dn j hj; have := h.rl; omega), h.tch.trans ht (fun _ _ e => e), h.dn, h.rl, h.vl⟩
theorem Tls.grew {w W W' : World} {rb : Nat} {rv d d' : Value} {ys l l' : List Int} {p : Nat} (h : Tls w W rb rv d ys l p) (ho : Owns .i64 3 W' d' l') (hg : Grew W W' d d') : Tls w W' rb rv d' ys l' p := by
 refine ⟨h.rr.tch hg.tch (fun e => ?_) (fun k hk e => ?_), ho, h.tch.trans hg.tch (fun i hi e => ?_), fun k hk => ?_, h.rl, h.vl⟩
 ·have := h.dn _ e; have := h.rl; omega
 ·have := h.dn _ e; have := h.vl k hk; omega
 ·have := h.dn _ e; omega
 ·rcases hg.fresh k hk with e | e
  ·exact h.dn k e
  ·have := h.tch.size; omega
def TLPost (R : Int × List Int × Nat) (rb : Nat) (rv : Value) (ys : List Int) (w : World) (e : Ending) (w' : World) : Prop :=
 ∃ d, e = .returned (.tuple #[d, .int .i64 R.1]) /\ Tch (fun k => k = rb) w w' /\ (∀ k, d.ownBlock = some k -> w.heap.size <= k) /\ (R.1 = 0 -> Rr w' rb rv ys R.2.2 /\ Owns .i64 3 w' d R.2.1) /\ (R.1 ≠ 0 -> d = .slice none 0 0)
theorem TLPost.bad {R : Int × List Int × Nat} {rb : Nat} {rv : Value} {ys : List Int} {w w' : World} {E : Int} (h : R.1 = E) (hE : E ≠ 0) (ht : Tch (fun k => k = rb) w w') : TLPost R rb rv ys w (.returned (.tuple #[.slice none 0 0, .int .i64 E])) w' :=
 ⟨_, by rw [h], ht, (fun k e => by cases e), fun e => absurd (h.symm.trans e) hE, fun _ => rfl⟩
theorem zfn9 (rb : Nat) (rv : Value) (ys : List Int) (w : World) (hr : Rr w rb rv ys 0) :
  Calls Tryz.prog 146 #[.pointer (some ⟨rb, 0, none⟩)] w fun e w' => TLPost (tabL ys) rb rv ys w e w' := by
 have HR : Hid (Rr w rb rv ys 0) := hr
 have hrl := hr.lt
 have hvl : ∀ k, rv.ownBlock = some k -> k < w.heap.size := fun k hk => hr.own.lt k hk
 have HRL : Hid (rb < w.heap.size) := hrl
 have HVL : Hid (∀ k, rv.ownBlock = some k -> k < w.heap.size) := hvl
 have hsm := hr.small
 clear hr hvl hrl
 obtain ⟨R, hR⟩ : ∃ R, Hid (tabL ys = R) := ⟨_, rfl⟩
 rw [hR.out]
 by_cases h8 : 8 * ys.length < 8
 ·have HE : Hid (R.1 = 3) := by show _ = _; rw [<- hR.out]; unfold tabL; rw [if_pos h8]
  go_enter Tryz.func146, Tryz.ntmps146
  go_wp2_with fail
  refine (zmd9 rb rv ys 0 8 w HR.out (by decide) (by omega)).mono ?_
  rintro e w1 ⟨rfl, hr1, ht1⟩
  have T1 : Hid (Tch (fun k => k = rb) w w1) := ht1
  clear hr1 ht1
  go_wp2_with fail
  go_ret2
  exact TLPost.bad HE.out (by decide) T1.out
 ·have hv8 := val8 ys 0
  obtain ⟨less, hless⟩ : ∃ less : Nat, Hid (val (unpack ys) 0 8 = (less : Int)) := by
   obtain ⟨n, hn⟩ := Int.eq_ofNat_of_zero_le hv8.1
   exact ⟨n, hn⟩
  rw [hless.out] at hv8
  have hl255 : less <= 255 := by omega
  have HRT : Hid (tl (unpack ys) (8 * ys.length) less (less + 2) 8 [] false = R) := by
   show _ = _
   rw [<- hR.out]
   unfold tabL
   rw [if_neg h8, hless.out, Int.toNat_natCast]
  obtain ⟨j0, hj, hy0, hy1, hy2⟩ := elem64.info
  clear hv8
  go_enter Tryz.func146, Tryz.ntmps146
  go_wp2_with fail
  refine (zge9 rb rv ys 0 8 w HR.out (by decide) (by omega)).mono ?_
  rintro e w1 ⟨rfl, hr1, ht1⟩
  rw [hless.out]
  have T1 : Hid (Tch (fun k => k = rb) w w1) := ht1
  have R1 : Hid (Rr w1 rb rv ys 8) := hr1
  clear hr1 ht1
  go_wp2_with (at_make; refine wpList_make_own _ rfl (.const (.int .i64 0)) (.tmp 20) 56 rfl 0 3 j0 _ 1 Tryz.underlying56 hj hy0 hy1 .i64 .i64 _ (less + 1) rfl rfl rfl (by rw [hy2]; omega) (by unfold maxLen; omega) (Nat.zero_le _) ?_)
  intro w2 ho2 hg2
  have S2 : Hid (Tls w w2 rb rv (.slice (some ⟨w1.heap.size, 0, none⟩) 0 (less + 1)) ys [] 8) := by
   have b2 : Below w1.heap.size w1 w2 := (Below.refl _ _).grown hg2 (Nat.le_refl _) (fun k e => by cases e)
   refine ⟨R1.out.below b2, ho2, T1.out.trans (Tch.of_below (S := fun k => k = rb) b2) (fun _ _ e => e), fun k hk => ?_, HRL.out, HVL.out⟩
   simp only [Value.ownBlock, Option.some.injEq] at hk
   have := T1.out.size
   omega
  clear ho2 hg2 R1 T1 hj hy0 hy1 hy2
  go_wp2_with fail
  go_loopw [6, 7] (fun d c wr => ∃ (l : List Int) (p f : Nat) (cl : Bool), c = .bool cl /\ l.length <= less + 1 /\ less + 2 <= l.length + f /\ Hid (Tls w wr rb rv d ys l p) /\ Hid (tl (unpack ys) (8 * ys.length) less f p l cl = R)) (fun d _ _ => less + 1 - slen d)
  case atStart => exact ⟨[], 8, less + 2, false, rfl, Nat.zero_le _, by simp, S2, HRT⟩
  case round =>
   clear S2 HRT
   obtain ⟨l, p, f, cl, rfl, hl, hf, S, HT⟩ := hrel
   obtain ⟨a2, cap2, hv, hl2, hm2, _, _⟩ := S.out.own.rd
   subst hv
   obtain ⟨f', rfl⟩ : ∃ f', f = f' + 1 := ⟨f - 1, by omega⟩
   have hT := HT.out
   simp only [tl] at hT
   by_cases hlt : less < l.length
   ·rw [if_pos hlt] at hT
    have HE : Hid (R = (0, l, p)) := hT.symm
    have hlt' : decide (l.length <= less) = false := by rw [decide_eq_false_iff_not]; omega
    clear hT HT
    go_wp2_with fail
    go_ret2
    rw [HE.out]
    exact ⟨_, rfl, S.out.tch, S.out.dn, fun _ => ⟨S.out.rr, S.out.own⟩, fun e => absurd rfl e⟩
   ·rw [if_neg hlt] at hT
    have hle : l.length <= less := by omega
    have hpl := S.out.rr.le
    by_cases h4 : 8 * ys.length - p < 4
    ·rw [if_pos h4] at hT
     have HE : Hid (R.1 = 3) := by show _ = _; rw [<- hT]
     clear hT HT
     go_wp2_with fail
     refine (zmd9 rb rv ys p 4 wr S.out.rr (by decide) (by omega)).mono ?_
     rintro e w3 ⟨rfl, hr3, ht3⟩
     have T3 : Hid (Tch (fun k => k = rb) w w3) := S.out.tch.trans ht3 (fun _ _ e => e)
     clear hr3 ht3
     go_wp2_with fail
     go_ret2
     exact TLPost.bad HE.out (by decide) T3.out
    ·rw [if_neg h4] at hT
     have hv4 := val4 ys p
     obtain ⟨x, hx⟩ : ∃ x, Hid (val (unpack ys) p 4 = x) := ⟨_, rfl⟩
     rw [hx.out] at hT hv4
     have HTK := zge9 rb rv ys p 4 wr S.out.rr (by decide) (by omega)
     rw [hx.out] at HTK
     have HTK2 : Hid (Calls Tryz.prog 134 #[.pointer (some ⟨rb, 0, none⟩), .int .i64 ((4 : Nat) : Int)] wr fun e w' => e = .returned (.tuple #[.int .i64 x, .int .i64 0]) /\ Rr w' rb rv ys (p + 4) /\ Tch (fun k => k = rb) wr w') := HTK
     clear HTK
     by_cases hx0 : 0 < x
     ·rw [if_pos hx0] at hT
      have HT2 : Hid (tl (unpack ys) (8 * ys.length) less f' (p + 4) (l ++ [x]) false = R) := hT
      clear hT HT
      go_wp2_with fail
      refine HTK2.out.mono ?_
      clear HTK2
      rintro e w3 ⟨rfl, hr3, ht3⟩
      have S3 : Hid (Tls w w3 rb rv (.slice a2 l.length cap2) ys l (p + 4)) := S.out.moved hr3 ht3
      clear hr3 ht3 S
      go_wp2_with (at_builtin; refine zd9 _ rfl (.tmp 36) (.tmp 38) 56 rfl 3 .i64 8 elem64 _ l rfl S3.out.own x rfl (by omega) (by omega) ?_)
      intro d4 w4 ho4 hg4
      have S4 : Hid (Tls w w4 rb rv d4 ys (l ++ [x]) (p + 4)) := S3.out.grew ho4 hg4
      have HM : Hid (less + 1 - slen d4 < less + 1 - l.length) := by
       show _ < _
       obtain ⟨_, _, e, _⟩ := ho4.rd
       rw [e]
       simp only [slen, List.length_append, List.length_cons, List.length_nil]
       omega
      clear ho4 hg4 S3
      go_wp2_with fail
      go_roundw
      case rel => exact ⟨l ++ [x], p + 4, f', false, rfl, by simp; omega, by simp; omega, S4, HT2⟩
      case measure => exact HM.out
     ·rw [if_neg hx0] at hT
      have hx0' : decide (0 < x) = false := by rw [decide_eq_false_iff_not]; omega
      by_cases h42 : 8 * ys.length - (p + 4) < 4
      ·rw [if_pos h42] at hT
       have HE : Hid (R.1 = 3) := by show _ = _; rw [<- hT]
       clear hT HT
       go_wp2_with fail
       refine HTK2.out.mono ?_
       clear HTK2
       rintro e w3 ⟨rfl, hr3, ht3⟩
       have S3 : Hid (Tls w w3 rb rv (.slice a2 l.length cap2) ys l (p + 4)) := S.out.moved hr3 ht3
       clear hr3 ht3 S
       go_wp2_with fail
       refine (zjs9 rb rv ys (p + 4) w3 S3.out.rr (by omega)).mono ?_
       rintro e w4 ⟨rfl, hr4, ht4⟩
       have T4 : Hid (Tch (fun k => k = rb) w w4) := S3.out.tch.trans ht4 (fun _ _ e => e)
       clear hr4 ht4 S3
       go_wp2_with fail
       go_ret2
       exact TLPost.bad HE.out (by decide) T4.out
      ·rw [if_neg h42] at hT
       have hv42 := val4 ys (p + 4)
       obtain ⟨z, hz⟩ : ∃ z : Nat, Hid (val (unpack ys) (p + 4) 4 = (z : Int)) := by
        obtain ⟨n, hn⟩ := Int.eq_ofNat_of_zero_le hv42.1
        exact ⟨n, hn⟩
       rw [hz.out] at hT hv42
       rw [Int.toNat_natCast] at hT
       have HTZ : Hid (∀ W, Rr W rb rv ys (p + 4) -> Calls Tryz.prog 158 #[.pointer (some ⟨rb, 0, none⟩)] W fun e w' => e = .returned (.tuple #[.int .i64 ((z : Int) + 1), .int .i64 0]) /\ Rr w' rb rv ys (p + 4 + 4) /\ Tch (fun k => k = rb) W w') := fun W h => by
        have := zjn9 rb rv ys (p + 4) W h (by omega)
        rw [hz.out] at this
        exact this
       have hz15 : (z : Int) <= 15 := hv42.2
       clear hv42
       by_cases hb : cl = true ∨ less + 1 < l.length + (z + 1)
       ·rw [if_pos hb] at hT
        have HE : Hid (R.1 = 4) := by show _ = _; rw [<- hT]
        have HBB : Hid (cl = true ∨ less + 1 < l.length + (z + 1)) := hb
        clear hT HT hb
        go_wp2_with fail
        refine HTK2.out.mono ?_
        clear HTK2
        rintro e w3 ⟨rfl, hr3, ht3⟩
        have S3 : Hid (Tls w w3 rb rv (.slice a2 l.length cap2) ys l (p + 4)) := S.out.moved hr3 ht3
        clear hr3 ht3 S
        go_wp2_with fail
        refine (HTZ.out w3 S3.out.rr).mono ?_
        clear HTZ
        rintro e w4 ⟨rfl, hr4, ht4⟩
        have T4 : Hid (Tch (fun k => k = rb) w w4) := S3.out.tch.trans ht4 (fun _ _ e => e)
        clear hr4 ht4 S3
        cases cl with
        | true =>
         go_wp2_with fail
         go_ret2
         exact TLPost.bad HE.out (by decide) T4.out
        | false =>
         have hg : ((less : Int) + 1) < (l.length : Int) + ((z : Int) + 1) := by rcases HBB.out with e | e; (· cases e); (· omega)
         go_wp2_with fail
         go_ret2
         exact TLPost.bad HE.out (by decide) T4.out
       ·rw [if_neg hb] at hT
        have HT2 : Hid (tl (unpack ys) (8 * ys.length) less f' (p + 8) (l ++ List.replicate (z + 1) 0) (decide (z + 1 < 16)) = R) := hT
        obtain rfl : cl = false := by cases cl; (· rfl); (· exact absurd (.inl rfl) hb)
        have hg : decide ((less : Int) + 1 < (l.length : Int) + ((z : Int) + 1)) = false := by rw [decide_eq_false_iff_not]; omega
        have hlz : l.length + (z + 1) <= less + 1 := by omega
        clear hT HT hb
        go_wp2_with fail
        refine HTK2.out.mono ?_
        clear HTK2
        rintro e w3 ⟨rfl, hr3, ht3⟩
        have S3 : Hid (Tls w w3 rb rv (.slice a2 l.length cap2) ys l (p + 4)) := S.out.moved hr3 ht3
        clear hr3 ht3 S
        go_wp2_with fail
        refine (HTZ.out w3 S3.out.rr).mono ?_
        clear HTZ
        rintro e w4 ⟨rfl, hr4, ht4⟩
        have S4 : Hid (Tls w w4 rb rv (.slice a2 l.length cap2) ys l (p + 8)) := S3.out.moved hr4 ht4
        clear hr4 ht4 S3
        go_wp2_with (at_builtin; refine zfv9 _ rfl (.tmp 58) (.tmp 59) rfl _ l rfl S4.out.own (z + 1) rfl (by omega) ?_)
        intro d5 w5 ho5 hg5
        have S5 : Hid (Tls w w5 rb rv d5 ys (l ++ List.replicate (z + 1) 0) (p + 8)) := S4.out.grew ho5 hg5
        have HM : Hid (less + 1 - slen d5 < less + 1 - l.length) := by
         show _ < _
         obtain ⟨_, _, e, _⟩ := ho5.rd
         rw [e]
         simp only [slen, List.length_append, List.length_replicate]
         omega
        clear ho5 hg5 S4
        go_wp2_with fail
        go_roundw
        case rel => exact ⟨l ++ List.replicate (z + 1) 0, p + 8, f', decide (z + 1 < 16), by congr 1; rw [decide_eq_decide]; omega, by simp; omega, by simp; omega, S5, HT2⟩
        case measure => exact HM.out
def TBPost (R : Int × List Int × Nat) (w : World) (e : Ending) (w' : World) : Prop :=
 ∃ d, e = .returned (.tuple #[d, .int .i64 (R.2.2 : Int), .int .i64 R.1]) /\ Below w.heap.size w w' /\ (∀ k, d.ownBlock = some k -> w.heap.size <= k) /\ Owns .i64 3 w' d R.2.1
theorem TBPost.bad {R : Int × List Int × Nat} {w w' : World} {E : Int} (h : R = (E, [], 0)) (hb : Below w.heap.size w w') : TBPost R w (.returned (.tuple #[.slice none 0 0, .int .i64 0, .int .i64 E])) w' :=
 ⟨_, by rw [h]; rfl, hb, (fun k e => by cases e), by rw [h]; exact zf9 _ _ _⟩
theorem zsi9 (v : Value) (ys : List Int) (w : World) (h : Rd .u8 w v ys) (hy : By ys) (hl : ys.length <= 140737488355328) :
  Calls Tryz.prog 130 #[v] w fun e w' => TBPost (tabR ys) w e w' := by
 have HRD : Hid (Rd .u8 w v ys) := h
 have HY : Hid (By ys) := hy
 obtain ⟨va, vcap, hva, _, _, _, _⟩ := h
 obtain ⟨R, hR⟩ : ∃ R, Hid (tabR ys = R) := ⟨_, rfl⟩
 rw [hR.out]
 have hRv := hR.out
 unfold tabR at hRv
 clear hy
 subst hva
 go_enter Tryz.func130, Tryz.ntmps130
 go_wp2_with fail
 refine (zbv9 _ ys w HRD.out HY.out hl).mono ?_
 rintro e w1 ⟨rb, rv, rfl, hr1, hb1, hn1, hm1⟩
 have R1 : Hid (Rr w1 rb rv ys 0) := hr1
 have B1 : Hid (Below w.heap.size w w1) := hb1
 have N1 : Hid (w.heap.size <= rb) := hn1
 clear hr1 hb1 hn1 hm1
 have HRV := hRv
 have HRV2 : Hid (_ = R) := HRV
 clear hRv HRV
 go_wp2_with fail
 refine (zfn9 rb rv ys w1 R1.out).mono ?_
 rintro e w2 ⟨d, rfl, ht2, hn2, hg2, hb2⟩
 have B2 : Hid (Below w.heap.size w w2) := B1.out.trans (ht2.below B1.out.size (fun k e => by rw [e]; exact N1.out))
 have HD2 : Hid (∀ k, d.ownBlock = some k -> w1.heap.size <= k) := hn2
 obtain ⟨t, ht⟩ : ∃ t, Hid (tabL ys = t) := ⟨_, rfl⟩
 rw [ht.out] at HRV2 hg2 hb2 ⊢
 obtain ⟨E, l, p⟩ := t
 simp only at hg2 hb2 ⊢
 have HRV3 := HRV2.out
 simp only at HRV3
 by_cases hE : E = 0
 ·subst hE
  obtain ⟨hr2, ho2⟩ := hg2 rfl
  rw [if_neg (by simp)] at HRV3
  have R2 : Hid (Rr w2 rb rv ys p) := hr2
  have O2 : Hid (Owns .i64 3 w2 d l) := ho2
  have HRV4 : Hid (_ = R) := HRV3
  have T12 : Hid (w1.heap.size <= w2.heap.size) := ht2.size
  have hple := hr2.le
  have hRL := R1.out.lt
  have hsm := R1.out.small
  clear ht2 hn2 hg2 hb2 hr2 ho2 HRV2 HRV3 R1 B1
  obtain ⟨z, hz⟩ : ∃ z, Hid (val (unpack ys) p ((8 * ys.length - p) % 8) = z) := ⟨_, rfl⟩
  have hZ := zoz9 rb rv ys p w2 R2.out
  rw [hz.out] at hZ
  have hRV := HRV4.out
  rw [hz.out] at hRV
  clear HRV4
  by_cases hz0 : z = 0
  ·subst hz0
   have HZ : Hid (Calls Tryz.prog 147 #[.pointer (some ⟨rb, 0, none⟩)] w2 fun e w' => e = .returned (.bool true) /\ Rr w' rb rv ys (p + (8 * ys.length - p) % 8) /\ Tch (fun k => k = rb) w2 w') := hZ
   clear hZ
   go_wp2_with fail
   refine HZ.out.mono ?_
   clear HZ
   rintro e w3 ⟨rfl, hr3, ht3⟩
   have R3 : Hid (Rr w3 rb rv ys (p + (8 * ys.length - p) % 8)) := hr3
   have B3 : Hid (Below w.heap.size w w3) := B2.out.trans (ht3.below B2.out.size (fun k e => by rw [e]; exact N1.out))
   have O3 : Hid (Owns .i64 3 w3 d l) := O2.out.tch ht3 (fun k hk e => by have := HD2.out k hk; omega)
   have HDW : Hid (∀ k, d.ownBlock = some k -> w.heap.size <= k) := fun k hk => by have := HD2.out k hk; have := N1.out; omega
   clear hr3 ht3 R2 B2 O2 HD2
   go_wp2_with fail
   refine (zbx9 d l w3 O3.out.rd).mono ?_
   rintro e w4 ⟨rfl, rfl⟩
   cases hm : mayC l with
   | false =>
    have HE : Hid (R = (4, [], 0)) := by show _ = _; rw [<- hRV, if_pos (.inr hm)]
    clear hRV hm
    go_wp2_with fail
    go_ret3
    exact TBPost.bad HE.out B3.out
   | true =>
    have HE : Hid (R = (0, l, ys.length - (8 * ys.length - p) / 8)) := by show _ = _; rw [<- hRV, if_neg (by simp [hm])]
    clear hRV hm
    have hL := zbt9 rb rv ys _ w4 R3.out
    obtain ⟨K, hK⟩ : ∃ K : Nat, (8 * ys.length - p) / 8 = K := ⟨_, rfl⟩
    rw [show 8 * ys.length - (p + (8 * ys.length - p) % 8) = 8 * K by omega] at hL
    have HL : Hid (Calls Tryz.prog 135 #[.pointer (some ⟨rb, 0, none⟩)] w4 fun e w' => e = .returned (.int .i64 ((8 * K : Nat) : Int)) /\ ∃ n, w' = w4.drewN n) := hL
    have hKy : K <= ys.length := by omega
    have hq : ((8 * K : Nat) : Int).tdiv 8 = (K : Int) := by rw [Int.tdiv_eq_ediv_of_nonneg (by omega)]; omega
    have hq2 : (8 * (K : Int)).tdiv 8 = (K : Int) := by rw [Int.tdiv_eq_ediv_of_nonneg (by omega)]; omega
    rw [hK] at HE
    clear hL hK
    go_wp2_with fail
    refine HL.out.mono ?_
    rintro e w5 ⟨rfl, q, hw5⟩
    have B5 : Hid (Below w.heap.size w w5) := by rw [hw5]; exact B3.out.trans (Below.of_drewN _ _ _)
    have O5 : Hid (Owns .i64 3 w5 d l) := by rw [hw5]; exact O3.out.below (Below.of_drewN _ _ _)
    clear hw5 HL R3 B3 O3
    go_wp2_with fail
    go_ret3
    rw [HE.out]
    refine ⟨d, ?_, B5.out, HDW.out, O5.out⟩
    have e : ((ys.length - K : Nat) : Int) = (ys.length : Int) - (K : Int) := by omega
    simp only [e]
    go_num
  ·have hzb : (z == 0) = false := by simp [hz0]
   rw [hzb] at hZ
   have HZ : Hid (Calls Tryz.prog 147 #[.pointer (some ⟨rb, 0, none⟩)] w2 fun e w' => e = .returned (.bool false) /\ Rr w' rb rv ys (p + (8 * ys.length - p) % 8) /\ Tch (fun k => k = rb) w2 w') := hZ
   have HE : Hid (R = (4, [], 0)) := by show _ = _; rw [<- hRV, if_pos (.inl hz0)]
   clear hZ hRV hzb
   go_wp2_with fail
   refine HZ.out.mono ?_
   clear HZ
   rintro e w3 ⟨rfl, hr3, ht3⟩
   have B3 : Hid (Below w.heap.size w w3) := B2.out.trans (ht3.below B2.out.size (fun k e => by rw [e]; exact N1.out))
   clear hr3 ht3 R2 B2 O2 HD2
   go_wp2_with fail
   go_ret3
   exact TBPost.bad HE.out B3.out
 ·rw [if_pos hE] at HRV3
  have HE : Hid (R = (E, [], 0)) := HRV3.symm
  have hEb : (E != 0) = true := by simp [hE]
  have hEb2 : (E == 0) = false := by simp [hE]
  clear ht2 hn2 hg2 hb2 HRV2 HRV3 R1 B1 HD2
  go_wp2_with fail
  go_ret3
  exact TBPost.bad HE.out B2.out
end Go.Proofs.YtobenjkacpipeaaGreat
