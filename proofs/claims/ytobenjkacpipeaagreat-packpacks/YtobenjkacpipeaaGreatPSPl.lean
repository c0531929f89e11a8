import Derived.Test.YtobenjkacpipeaaGreatPMem
import Derived.Laws.BitsAllLaws
import Derived.Deep.RegionHeld3
set_option maxRecDepth 100000
set_option linter.unusedVariables false
set_option linter.unusedSimpArgs false
set_option maxHeartbeats 8000000
namespace Go.Proofs.YtobenjkacpipeaaGreat
open Go.RowKit Pl
def c1 (x : Nat) : Nat := if x % 2 = 1 then x / 2 ^^^ 2197175160 else x / 2
def c8 : Nat -> Nat -> Nat
 | 0, x => x
 | k + 1, x => c1 (c8 k x)
def cR (xs : List Int) : Nat -> Nat
 | 0 => 4294967295
 | k + 1 => c8 8 (cR xs k ^^^ (xs.getD k 0).toNat)
def crc (xs : List Int) : Nat := 4294967295 - cR xs xs.length
theorem c1_lt {x : Nat} (h : x < 4294967296) : c1 x < 4294967296 := by
 unfold c1
 split
 ·exact Nat.xor_lt_two_pow (n := 32) (by omega) (by decide)
 ·omega
theorem zzm9 (x : Nat) (h : x < 4294967296) : 4294967295 ^^^ x = 4294967295 - x := by
 have h1 : (~~~ (BitVec.ofNat 32 x)).toNat = 4294967295 - x := by rw [BitVec.toNat_not, BitVec.toNat_ofNat]; omega
 have h2 : (BitVec.allOnes 32 ^^^ BitVec.ofNat 32 x).toNat = 4294967295 ^^^ x := by
  rw [BitVec.toNat_xor, BitVec.toNat_ofNat, BitVec.toNat_allOnes, Nat.mod_eq_of_lt (show x < 2 ^ 32 by omega)]
 rw [<- h1, <- h2, BitVec.not_def]
theorem zwg9 (x : Nat) (h : x < 4294967296) : Go.bits .xor .u32 IntKind.u32.max (x : Int) = ((4294967295 - x : Nat) : Int) := by
 have e : IntKind.u32.max = ((4294967295 : Nat) : Int) := by decide
 rw [e, u32_xor_nat _ _ (by decide) h, zzm9 x h]
theorem zabc9 (x : Nat) (h : x < 4294967296) : Go.bits .xor .u32 ((x : Int) / 2) (2197175160 * Go.bits .and .u32 (x : Int) 1 % 4294967296) = (c1 x : Int) := by
 have e1 : Go.bits .and .u32 (x : Int) 1 = ((x % 2 : Nat) : Int) := by
  have := u32_and_nat x 1 h (by decide)
  rw [nat_mask1] at this
  exact this
 rw [e1]
 have e2 : (x : Int) / 2 = ((x / 2 : Nat) : Int) := by omega
 rw [e2]
 unfold c1
 by_cases c : x % 2 = 1
 ·rw [if_pos c, c]
  have := u32_xor_nat (x / 2) 2197175160 (by omega) (by decide)
  exact this
 ·have c0 : x % 2 = 0 := by omega
  rw [if_neg c, c0]
  have := u32_xor_nat (x / 2) 0 (by omega) (by decide)
  simpa using this
set_option maxRecDepth 100000 in
theorem zvc9 (v : Value) (xs : List Int) (w : World) (hr : Rd .u8 w v xs) (hb : By xs) :
  Calls Tryz.prog 29 #[v] w fun e w' => e = .returned (.int .i64 (crc xs : Int)) /\ w' = w := by
 obtain ⟨a, cap, rfl, hlc, hcm, _, hcc⟩ := hr
 have HC : Hid (xs = [] ∨ ∃ b o, a = some ⟨b, o, none⟩ /\ ∀ i, i < xs.length -> w.cell? ⟨b, o + i, none⟩ = some (.int .u8 (xs.getD i 0))) := hcc
 have HB : Hid (By xs) := hb
 have hm : xs.length <= 9223372036854775807 := by unfold maxLen at hcm; omega
 clear hcc hb hcm
 obtain ⟨R, hR⟩ : ∃ R, Hid (crc xs = R) := ⟨_, rfl⟩
 rw [hR.out]
 go_enter Tryz.func29, Tryz.ntmps29
 go_wp2_with fail
 go_loopw [3, 9] (fun x i wr => ∃ (k X : Nat), k <= xs.length /\ i = .int .i64 k /\ x = .int .u32 X /\ X < 4294967296 /\ Hid (cR xs k = X) /\ wr = w) (fun _ i _ => xs.length - (intOf i).toNat)
 case atStart => exact ⟨0, 4294967295, Nat.zero_le _, rfl, rfl, by decide, rfl, rfl⟩
 case round =>
  obtain ⟨k, X, hk, rfl, rfl, hX, HX, rfl⟩ := hrel
  by_cases hlt : k < xs.length
  ·obtain ⟨ab, ao, ha, hc⟩ : ∃ b o, a = some ⟨b, o, none⟩ /\ ∀ i, i < xs.length -> wr.cell? ⟨b, o + i, none⟩ = some (.int .u8 (xs.getD i 0)) := by
    rcases HC.out with rfl | h
    ·simp at hlt
    ·exact h
   subst ha
   obtain ⟨b, hb⟩ : ∃ b : Nat, Hid (xs.getD k 0 = (b : Int) /\ b < 256) := by
    have := HB.out k
    exact ⟨(xs.getD k 0).toNat, by omega, by omega⟩
   have hb1 := hb.out.2
   have cx : wr.cell? ⟨ab, ao + k, none⟩ = some (.int .u8 (b : Int)) := by rw [hc k hlt, hb.out.1]
   have hx1 : Go.bits .xor .u32 (X : Int) (b : Int) = ((X ^^^ b : Nat) : Int) := u32_xor_nat X b hX (by omega)
   have hx2 : X ^^^ b < 4294967296 := Nat.xor_lt_two_pow (n := 32) hX (by omega)
   have HN : Hid (cR xs (k + 1) = c8 8 (X ^^^ b)) := by show _ = _; simp only [cR]; rw [HX.out, hb.out.1]; rfl
   obtain ⟨Y, hY⟩ : ∃ Y, X ^^^ b = Y := ⟨_, rfl⟩
   rw [hY] at hx1 hx2 HN
   clear hc HX hY
   go_wp2_with fail
   go_loopw [3, 17] (fun x i wr' => ∃ (j X : Nat), j <= 8 /\ i = .int .i64 j /\ x = .int .u32 X /\ X < 4294967296 /\ Hid (c8 j Y = X) /\ wr' = wr) (fun _ i _ => 8 - (intOf i).toNat)
   case atStart => exact ⟨0, Y, Nat.zero_le _, rfl, rfl, hx2, rfl, rfl⟩
   case round =>
    obtain ⟨j, Z, hj, rfl, rfl, hZ, HZ, rfl⟩ := hrel
    by_cases hjl : j < 8
    ·have hs := zabc9 Z hZ
     have hs2 := c1_lt hZ
     have HZ2 : Hid (c8 (j + 1) Y = c1 Z) := by show _ = _; simp only [c8]; rw [HZ.out]
     go_wp2_with fail
     go_roundw
     case rel => exact ⟨j + 1, c1 Z, by omega, by go_num, by first | rfl | (rw [hs]), hs2, HZ2, trivial⟩
     case measure => simp [intOf]; omega
    ·obtain rfl : j = 8 := by omega
     rw [HZ.out] at HN
     go_wp2_with fail
     go_roundw
     case rel => exact ⟨k + 1, Z, by omega, by go_num, rfl, hZ, HN, trivial⟩
     case measure => simp [intOf]; omega
  ·obtain rfl : k = xs.length := by omega
   have he : R = 4294967295 - X := by rw [<- hR.out]; unfold crc; rw [HX.out]
   have hn := zwg9 X hX
   have hn2 : wrap64 ((4294967295 - X : Nat) : Int) = (R : Int) := by rw [he, wrap64]; omega
   go_wp2_with fail
   go_ret
   exact ⟨rfl, rfl⟩
def Stays (w w' : World) (v : Value) (n : Nat) : Prop := ∀ b off x, w.cell? ⟨b, off, none⟩ = some x -> (v.ownBlock = some b -> off < n) -> w'.cell? ⟨b, off, none⟩ = some x
section
variable {P : Program}
theorem zyg9 (w : World) (t ty e : TypeId) (k : IntKind) (bytes : Nat) (E : Elem P t e k bytes) (v : Value) (xs : List Int) (hown : Owns k e w v xs) (y : Int) (g0 : Nat) (hy : w.cell? ⟨g0, 0, none⟩ = some (.int k y))
  (h63 : xs.length + 1 <= maxLen) (hbytes : (xs.length + 1) * bytes <= 140737488355328) :
  ∃ v' w', (Builtin.append_ #[t, t] ty #[v, .slice (some ⟨g0, 0, none⟩) 1 1]).run P w = .ok v' w' /\ Owns k e w' v' (xs ++ [y]) /\ Grew w w' v v' /\ Stays w w' v xs.length := by
 obtain ⟨ht, i, hi, hz, hsize, hby⟩ := E
 have hsrc : Src w (.slice (some ⟨g0, 0, none⟩) 1 1) [.int k y] := by
  refine ⟨_, 1, rfl, fun u hu => by simp at hu; subst hu; rfl, (fun e => by cases e), fun ad ha j u hu => ?_⟩
  obtain rfl := Option.some.inj ha
  match j, hu with
  | 0, hu => simp at hu; subst hu; simpa [Addr.add] using hy
 have hown' : w.ownsRow 0 e 1 v (xs.map (Value.int k)).length (xs.map (Value.int k)) := by unfold Owns at hown; simpa using hown
 obtain ⟨v', w', hr, ho, hg, hf⟩ := ztx9 (P := P) w t ty e i (.int k 0) bytes ht hi hz hsize hby rfl v (xs.map (Value.int k)) hown' _ [.int k y] hsrc (by simpa using h63) (by simpa using hbytes)
 have hO : Owns k e w' v' (xs ++ [y]) := by unfold Owns; simpa using ho
 refine ⟨v', w', hr, hO, ⟨(Tch.refl _ w).grown hg (fun _ _ e => e), hf⟩, fun b off x hc hb => ?_⟩
 have hnews : ∀ j u, ([.int k y] : List Value)[j]? = some u -> w.cell? ((⟨g0, 0, none⟩ : Addr).add j) = some u := fun j u hu => by
  match j, hu with
  | 0, hu => simp at hu; subst hu; simpa [Addr.add] using hy
 by_cases hob : v.ownBlock = some b
 ·have hoff := hb hob
  rcases hown'.2 with ⟨rfl, h0⟩ | ⟨g, cap, cur, rfl, _, hgg, hnc, hcm, hcs, htake⟩
  ·cases hob
  ·have hgb : g = b := by simpa [Value.ownBlock] using hob
   subst hgb
   rw [List.length_map] at hr hnc
   by_cases hroom : xs.length + 1 <= cap
   ·have hr2 := run_append_room (P := P) w t ty e i ht hi g xs.length cap cur hgg ⟨g0, 0, none⟩ 1 1 [.int k y] (by rw [hsize]; rfl) hnews (fun u hu => by simp at hu; subst hu; rfl) hroom (by rw [hsize, hcs]; simp; omega)
    have e2 := hr.symm.trans hr2
    simp only [Result.ok.injEq] at e2
    obtain ⟨rfl, _⟩ := e2
    obtain ⟨g', cap', hv', _, _, _, hcell, _⟩ := hO.shape (by simp)
    simp only [Value.slice.injEq, Option.some.injEq, Addr.mk.injEq] at hv'
    obtain ⟨⟨rfl, _⟩, _⟩ := hv'
    have h1 := hcell off (by simp; omega)
    rw [h1]
    obtain ⟨g2, cap2, hv2, _, _, _, hcell2, _⟩ := hown.shape (by omega)
    simp only [Value.slice.injEq, Option.some.injEq, Addr.mk.injEq] at hv2
    obtain ⟨⟨rfl, _⟩, _⟩ := hv2
    have h2 := hcell2 off hoff
    rw [h2] at hc
    rw [<- hc, List.getD_eq_getElem?_getD, List.getD_eq_getElem?_getD, List.getElem?_append_left hoff]
   ·obtain ⟨v2, w2, hr2, _, hg2⟩ := run_append_arg_grows (P := P) w t ty e i (.int k 0) 1 bytes ht hi hz hsize hby rfl (by decide) ⟨g, 0, none⟩ xs.length cap (xs.map (Value.int k)) (by simp) (hown'.cells (g := g) rfl) ⟨g0, 0, none⟩ 1 1 [.int k y] rfl hnews (by omega) h63 hbytes
    have e2 := hr.symm.trans hr2
    simp only [Result.ok.injEq] at e2
    obtain ⟨_, rfl⟩ := e2
    have hlt := World.block_lt_of_cell? w ⟨g, off, none⟩ hc
    rw [World.cell?_of_block (w := w) (hg2.block g hlt (by simp))]
    exact hc
 ·have hlt := World.block_lt_of_cell? w ⟨b, off, none⟩ hc
  rw [World.cell?_of_block (w := w) (hg.block b hlt (fun e => hob e.symm))]
  exact hc
theorem zti9 {ops : Array Oper} {o : Oper} {a : Act} {w : World} {K : Act -> World -> Prop} {Q : Exit -> Act -> World -> Prop} {E : Prop} (hgd : o.guard = none) (s x : Operand) (t : TypeId)
  (ho : o.op = .call { callee := .builtin .append, args := #[s, x], argTypes := #[t, t] }) (e : TypeId) (k : IntKind) (bytes : Nat) (El : Elem P t e k bytes)
  (v : Value) (xs : List Int) (hs : a.eval s = v) (hown : Owns k e w v xs) (y : Int) (g0 : Nat) (hx : a.eval x = .slice (some ⟨g0, 0, none⟩) 1 1) (hy : w.cell? ⟨g0, 0, none⟩ = some (.int k y))
  (h63 : xs.length + 1 <= maxLen) (hbytes : (xs.length + 1) * bytes <= 140737488355328)
  (h : ∀ v' w', Owns k e w' v' (xs ++ [y]) -> Grew w w' v v' -> Stays w w' v xs.length -> K (a.put o.dst v') w') :
  if Region.wanted o (yielded ops a.tmps) = true then Oper.wp P o a w K Q else E := by
 have hw : Region.wanted o (yielded ops a.tmps) = true := by simp [Region.wanted, hgd]
 rw [if_pos hw]
 obtain ⟨v', w', hr, h2, h3, h4⟩ := zyg9 (P := P) w t o.type e k bytes El v xs hown y g0 hy h63 hbytes
 unfold Oper.wp
 simp [execOp, ho, resolve, invoke, builtin, hs, hx, hr, Result.andThen]
 exact h v' w' h2 h3 h4
end
end Go.Proofs.YtobenjkacpipeaaGreat
