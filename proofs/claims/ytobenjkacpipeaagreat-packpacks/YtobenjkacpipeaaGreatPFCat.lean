import Derived.Test.YtobenjkacpipeaaGreatPFSh1
import Derived.Test.YtobenjkacpipeaaGreatPFRefMay
import Derived.Test.YtobenjkacpipeaaGreatPNum
import Derived.Test.YtobenjkacpipeaaGreatPRefPutNum
import Derived.Test.YtobenjkacpipeaaGreatPFBkw
set_option maxRecDepth 100000
set_option linter.unusedVariables false
set_option linter.unusedSimpArgs false
set_option maxHeartbeats 8000000
namespace Go.Proofs.YtobenjkacpipeaaGreat
open Go.RowKit Pl
theorem zsz9 (w : World) (ty : TypeId) (v : Value) (xs : List Int) (n : Nat) (hown : Owns .i64 3 w v xs) (hn : xs.length + n <= 4096) :
  ∃ v' w', (Builtin.append_ #[56, 3] ty #[v, .int .i64 (n : Int)]).run Tryz.prog w = .ok v' w' /\ Owns .i64 3 w' v' (xs ++ List.replicate n 0) /\ Grew w w' v v' := by
 obtain ⟨ht, i, hi, hz, hs1, hby⟩ := elem64
 have hu := zla9
 have hw : IntKind.i64.wrap (n : Int) = (n : Int) := zi9 _ (by omega) (by omega)
 have hn0 : ¬ ((n : Int) < 0) := by omega
 have hn48 : ¬ (281474976710656 < (n : Int) * 8) := by omega
 have ho : w.ownsRow 0 3 1 v xs.length (xs.map (Value.int .i64)) := hown
 have hai := fun w' => zea9 (n : Int) w'
 by_cases h0 : n = 0
 ·subst h0
  refine ⟨v, w, ?_, by simpa using hown, Grew.refl _ _⟩
  have hai0 := fun w' => zea9 0 w'
  have hw0 : IntKind.i64.wrap 0 = 0 := by rw [zi9 _ (by omega) (by omega)]
  rcases ho.2 with ⟨rfl, hx0⟩ | ⟨g, cap, cur, rfl, hb, hg, hnc, hcm, hcs, htake⟩
  ·simp [Builtin.append_, run_underlying ht, run_underlying hu, sizeOf, typeInfo, hi, hs1, hby, hw0, hai0]
  ·simp [Builtin.append_, run_underlying ht, run_underlying hu, sizeOf, typeInfo, hi, hs1, hby, hw0, hai0, hnc, storeCells]
 ·have hnz : ¬ ((n : Int) <= 0) := by omega
  have grown : ∀ (cap : Nat), cap < xs.length + n →
    Owns .i64 3 (w.drew.alloc (.cells ((xs.map (Value.int .i64)).toArray ++ (Builtin.zeroCells (Value.int .i64 0).cells n ++ Builtin.zeroCells (Value.int .i64 0).cells (grownCap w (xs.length + n) cap 3 - (xs.length + n)))) 3))
     (.slice (some ⟨w.heap.size, 0, none⟩) (xs.length + n) (grownCap w (xs.length + n) cap 3)) (xs ++ List.replicate n 0) ∧
    Grew w (w.drew.alloc (.cells ((xs.map (Value.int .i64)).toArray ++ (Builtin.zeroCells (Value.int .i64 0).cells n ++ Builtin.zeroCells (Value.int .i64 0).cells (grownCap w (xs.length + n) cap 3 - (xs.length + n)))) 3)) v (.slice (some ⟨w.heap.size, 0, none⟩) (xs.length + n) (grownCap w (xs.length + n) cap 3)) := by
   intro cap hc
   have hge := grownCap_ge w (xs.length + n) cap 3
   have hcm : grownCap w (xs.length + n) cap 3 <= maxLen := grownCap_le_maxLen w (xs.length + n) cap 3 (by unfold maxLen; omega)
   have hl : (xs ++ List.replicate n 0).length = xs.length + n := by simp
   refine ⟨?_, ⟨rfl, rfl, rfl, by simp, fun k hk _ => Below.heap_alloc w.drew _ k hk⟩, fun k hk => ?_⟩
   ·unfold Owns
    rw [hl]
    refine ⟨by simp, .inr ⟨w.heap.size, _, _, rfl, Nat.zero_le _, heap_alloc_new w.drew _, hge, hcm, ?_, ?_⟩⟩
    ·simp only [Array.size_append, List.size_toArray, size_zeroCells, List.length_map, Value.cells]
     simp
     omega
    ·rw [zz9, zz9]
     simp only [Array.toList_append, List.map_append, List.map_replicate]
     rw [<- List.append_assoc]
     have : (xs.map (Value.int .i64) ++ List.replicate n (Value.int .i64 0)).length = (xs.length + n) * 1 := by simp
     rw [<- this]
     exact List.take_left
   ·simp only [Value.ownBlock, Option.some.injEq] at hk
    exact .inr (by omega)
  have h63' : ¬ (9223372036854775807 < ((xs.length : Int) + (n : Int))) := by omega
  rcases ho.2 with ⟨rfl, hx0⟩ | ⟨g, cap, cur, rfl, hb, hg, hnc, hcm, hcs, htake⟩
  ·have hxs : xs = [] := List.eq_nil_of_length_eq_zero hx0
   subst hxs
   obtain ⟨g1, g2⟩ := grown 0 (by simp; omega)
   simp only [List.length_nil, Nat.zero_add] at g1 g2
   have hfit : ¬ (281474976710656 < Builtin.nextslicecap n 0 * 8) := by have := growslice_fits (old := 0) (need := n) (bytes := 8) (by omega) (by omega); omega
   have h63 : ¬ (9223372036854775807 < (n : Int)) := by omega
   refine ⟨_, _, ?_, g1, g2⟩
   simp [Builtin.append_, run_underlying ht, run_underlying hu, sizeOf, typeInfo, zeroValue, hi, hz, hs1, hby, hw, hai, h0, hn0, hn48, hnz, h63, hfit, Question.forced, Builtin.firstCells, loadCells, loadCellsFrom, newRow, grownCap]
  ·by_cases hroom : xs.length + n <= cap
   ·have hst := run_storeCells_at Tryz.prog g xs.length 3 (List.replicate n (Value.int .i64 0)) 0 cur w hg (by simp; omega) (fun u hu => by rw [List.eq_of_mem_replicate hu]; rfl)
    simp only [Nat.add_zero] at hst
    have hl : (xs ++ List.replicate n 0).length = xs.length + n := by simp
    refine ⟨.slice (some ⟨g, 0, none⟩) (xs.length + n) cap, w.setRow g (cur.toList.take xs.length ++ List.replicate n (Value.int .i64 0) ++ cur.toList.drop (xs.length + (List.replicate n (Value.int .i64 0)).length)).toArray, ?_, ?_, ?_⟩
    ·simp [Builtin.append_, run_underlying ht, run_underlying hu, sizeOf, typeInfo, zeroValue, hi, hz, hs1, hby, hw, hai, h0, hn0, hn48, hnz, hroom, zz9, Addr.add_lit]
     simp at hst
     rw [hst]
     rfl
    ·unfold Owns
     rw [hl]
     refine ⟨by simp, .inr ⟨g, cap, _, rfl, hb, setRow_heap w g cur _ 3 _ hg, hroom, hcm, ?_, ?_⟩⟩
     ·simp only [List.size_toArray, List.length_append, List.length_take, List.length_drop, Array.length_toList, List.length_replicate]
      omega
     ·have ht2 : cur.toList.take xs.length = xs.map (Value.int .i64) := by simpa using htake
      rw [ht2, List.map_append, List.map_replicate]
      have : (xs.map (Value.int .i64) ++ List.replicate n (Value.int .i64 0)).length = (xs.length + n) * 1 := by simp
      rw [<- this]
      exact List.take_left
    ·exact ⟨⟨rfl, rfl, rfl, by simp [World.setRow], fun k _ hk => setRow_other w g k _ (fun e => hk (by simp [Value.ownBlock, e]))⟩, fun k hk => .inl hk⟩
   ·obtain ⟨g1, g2⟩ := grown cap (by omega)
    have hfit : ¬ (281474976710656 < Builtin.nextslicecap (xs.length + n) cap * 8) := by have := growslice_fits (old := cap) (need := xs.length + n) (bytes := 8) (by omega) (by omega); omega
    have hfo := run_firstCells_some (P := Tryz.prog) w.drew 1 xs.length ⟨g, 0, none⟩ xs.length cap (xs.map (Value.int .i64)) (by simp) (fun j u hu => by
     have := ho.cells (g := g) rfl j u hu
     simpa using this)
    refine ⟨_, _, ?_, g1, g2⟩
    simp [Builtin.append_, run_underlying ht, run_underlying hu, sizeOf, typeInfo, zeroValue, hi, hz, hs1, hby, hw, hai, h0, hn0, hn48, hnz, hroom, h63', hfit, Question.forced, hfo, newRow, grownCap]
theorem zjg9 (w : World) {ops : Array Oper} {rest : List Oper} {o : Oper} {a : Act} {Q : Exit -> Act -> World -> Prop} (hgd : o.guard = none) (s x : Operand)
  (ho : o.op = .call { callee := .builtin .append, args := #[s, x], argTypes := #[56, 3] }) (v : Value) (xs : List Int) (hs : a.eval s = v) (hown : Owns .i64 3 w v xs) (n : Nat) (hx : a.eval x = .int .i64 (n : Int)) (hn : xs.length + n <= 4096)
  (h : ∀ v' w', Owns .i64 3 w' v' (xs ++ List.replicate n 0) -> Grew w w' v v' -> wpList Tryz.prog ops Q rest (a.put o.dst v') w') : wpList Tryz.prog ops Q (o :: rest) a w := by
 obtain ⟨v', w', hr, h2, h3⟩ := zsz9 w o.type v xs n hown hn
 refine wpList_plain hgd fun K hK => ?_
 unfold Oper.wp
 simp [execOp, ho, resolve, invoke, builtin, hs, hx, hr, Result.andThen]
 exact hK _ _ (h v' w' h2 h3)
theorem Owns.head {k : IntKind} {e : TypeId} {w : World} {g n cap : Nat} {xs : List Int} (h : Owns k e w (.slice (some ⟨g, 0, none⟩) n cap) xs) : Owns k e w (.slice (some ⟨g, 0, none⟩) 0 cap) [] := by
 rcases h.2 with ⟨e1, _⟩ | ⟨g', cap', cur, e1, hb, hg, hnc, hcm, hs, ht⟩
 ·cases e1
 ·cases e1
  exact ⟨rfl, .inr ⟨g, cap, cur, rfl, hb, hg, Nat.zero_le _, hcm, hs, by simp⟩⟩
theorem zrt9 (n : Nat) (w : World) (h1 : 1 <= n) (h2 : n <= 4096) :
  Calls Tryz.prog 143 #[.slice none 0 0, .int .i64 n] w fun e w' => ∃ v', e = .returned v' /\ Owns .i64 3 w' v' [] /\ Grew w w' (.slice none 0 0) v' := by
 go_enter Tryz.func143, Tryz.ntmps143
 go_wp2_with (at_builtin; refine zjg9 _ rfl (.tmp 20) (.tmp 21) rfl _ [] rfl (zf9 _ _ _) n rfl (by simp; omega) ?_)
 intro v2 w2 ho2 hg2
 obtain ⟨g, cap, hv, _, _, hcm, _, _⟩ := ho2.shape (by simp; omega)
 subst hv
 have HO : Hid (Owns .i64 3 w2 (.slice (some ⟨g, 0, none⟩) 0 cap) []) := ho2.head
 have HG : Hid (Grew w w2 (.slice none 0 0) (.slice (some ⟨g, 0, none⟩) 0 cap)) := ⟨hg2.1, fun k e => hg2.2 k e⟩
 have hcap : cap <= 9223372036854775807 := by unfold maxLen at hcm; omega
 clear ho2 hg2 hcm
 go_wp2_with fail
 go_ret
 exact ⟨_, rfl, HO.out, HG.out⟩
set_option maxRecDepth 100000 in
theorem zon9 (B : Nat) (va vb : Value) (xs ys : List Int) (w : World) (ha : Rd .i64 w va xs) (hb : Rd .i64 w vb ys) (h1 : 1 <= xs.length) (h2 : xs.length <= 1000) (h3 : ys.length <= 1000)
  (c0 : w.cell? ⟨B, 0, none⟩ = some va) (c1 : w.cell? ⟨B, 1, none⟩ = some vb) :
  Calls Tryz.prog 120 #[.slice (some ⟨B, 0, none⟩) 2 2] w fun e w' => ∃ v', e = .returned v' /\ Owns .i64 3 w' v' (xs ++ ys) /\ Grew w w' (.slice none 0 0) v' := by
 have HA : Hid (Rd .i64 w va xs) := ha
 have HB : Hid (Rd .i64 w vb ys) := hb
 obtain ⟨aa, ac, rfl, _, _, _, _⟩ := ha
 obtain ⟨ba, bc, rfl, _, _, _, _⟩ := hb
 have C0 : Hid (w.cell? ⟨B, 0, none⟩ = some (.slice aa xs.length ac)) := c0
 have C1 : Hid (w.cell? ⟨B, 1, none⟩ = some (.slice ba ys.length bc)) := c1
 obtain ⟨X, hX⟩ : ∃ X, Hid (xs.length = X) := ⟨_, rfl⟩
 obtain ⟨Y, hY⟩ : ∃ Y, Hid (ys.length = Y) := ⟨_, rfl⟩
 rw [hX.out] at h1 h2 HA C0 c0
 rw [hY.out] at h3 HB C1 c1
 go_enter Tryz.func120, Tryz.ntmps120
 go_wp2_with fail
 go_loop [3, 11] (fun s i => ∃ k q : Nat, k <= 2 /\ i = .int .i64 k /\ s = .int .i64 q /\ ((k = 0 /\ q = 0) ∨ (k = 1 /\ q = X) ∨ (k = 2 /\ q = X + Y))) (fun _ i => 2 - (intOf i).toNat)
 case atStart => exact ⟨0, 0, by omega, rfl, rfl, .inl ⟨rfl, rfl⟩⟩
 case round =>
  obtain ⟨k, q, hk, rfl, rfl, hkq⟩ := hrel
  rcases hkq with ⟨rfl, rfl⟩ | ⟨rfl, rfl⟩ | ⟨rfl, rfl⟩
  ·go_wp2_with fail
   go_round
   case rel => exact ⟨1, X, by omega, by first | rfl | go_num, by first | rfl | go_num, .inr (.inl ⟨rfl, rfl⟩)⟩
   case measure => simp [intOf]
  ·go_wp2_with fail
   go_round
   case rel => exact ⟨2, q + Y, by omega, by first | rfl | go_num, by first | rfl | go_num, .inr (.inr ⟨rfl, rfl⟩)⟩
   case measure => simp [intOf]
  ·have HGR : Hid (Calls Tryz.prog 143 #[.slice none 0 0, .int .i64 ((X + Y : Nat) : Int)] w fun e w' => ∃ v', e = .returned v' /\ Owns .i64 3 w' v' [] /\ Grew w w' (.slice none 0 0) v') := zrt9 (X + Y) w (by omega) (by omega)
   clear c0 c1
   go_wp2_with fail
   refine HGR.out.mono ?_
   clear HGR
   rintro e w2 ⟨v2, rfl, ho2, hg2⟩
   have O2 : Hid (Owns .i64 3 w2 v2 []) := ho2
   have G2 : Hid (Grew w w2 (.slice none 0 0) v2) := hg2
   clear ho2 hg2
   go_wp2_with fail
   go_loopw [6, 27] (fun r i wr => ∃ (k : Nat) (l : List Int), k <= 2 /\ i = .int .i64 k /\ ((k = 0 /\ Hid (l = [])) ∨ (k = 1 /\ Hid (l = xs)) ∨ (k = 2 /\ Hid (l = xs ++ ys))) /\ Hid (Owns .i64 3 wr r l) /\ Hid (Grew w wr (.slice none 0 0) r)) (fun _ i _ => 2 - (intOf i).toNat)
   case atStart => exact ⟨0, [], by omega, rfl, .inl ⟨rfl, rfl⟩, O2, G2⟩
   case round =>
    clear O2 G2
    obtain ⟨k, l, hk, rfl, hkq, HO, HG⟩ := hrel
    have HBL : Hid (Below w.heap.size w wr) := HG.out.below.1
    rcases hkq with ⟨rfl, HL⟩ | ⟨rfl, HL⟩ | ⟨rfl, HL⟩
    ·have d0 : wr.cell? ⟨B, 0, none⟩ = some (.slice aa X ac) := by rw [HBL.out.cell (p := ⟨B, 0, none⟩) (World.block_lt_of_cell? w ⟨B, 0, none⟩ C0.out), C0.out]
     have HA2 : Hid (Rd .i64 wr (.slice aa X ac) xs) := HA.out.below HBL.out
     go_wp2_with (at_builtin; refine zb9 _ rfl (.tmp 31) (.tmp 32) 56 rfl 3 .i64 8 elem64 _ l rfl HO.out _ xs rfl HA2.out ?a1 ?a2 ?_)
     case a1 => rw [HL.out]; simp; rw [hX.out]; omega
     case a2 => rw [HL.out]; simp; rw [hX.out]; omega
     intro v3 w3 ho3 hg3
     have HO3 : Hid (Owns .i64 3 w3 v3 xs) := by have := ho3; rw [HL.out, List.nil_append] at this; exact this
     have HG3 : Hid (Grew w w3 (.slice none 0 0) v3) := HG.out.trans hg3
     clear ho3 hg3 HO HG d0 HA2
     go_wp2_with fail
     go_roundw
     case rel => exact ⟨1, xs, by omega, by first | rfl | go_num, .inr (.inl ⟨rfl, rfl⟩), HO3, HG3⟩
     case measure => simp [intOf]
    ·have d0 : wr.cell? ⟨B, 1, none⟩ = some (.slice ba Y bc) := by rw [HBL.out.cell (p := ⟨B, 1, none⟩) (World.block_lt_of_cell? w ⟨B, 1, none⟩ C1.out), C1.out]
     have HA2 : Hid (Rd .i64 wr (.slice ba Y bc) ys) := HB.out.below HBL.out
     go_wp2_with (at_builtin; refine zb9 _ rfl (.tmp 31) (.tmp 32) 56 rfl 3 .i64 8 elem64 _ l rfl HO.out _ ys rfl HA2.out ?a1 ?a2 ?_)
     case a1 => rw [HL.out, hX.out, hY.out]; omega
     case a2 => rw [HL.out, hX.out, hY.out]; omega
     intro v3 w3 ho3 hg3
     have HO3 : Hid (Owns .i64 3 w3 v3 (xs ++ ys)) := by have := ho3; rw [HL.out] at this; exact this
     have HG3 : Hid (Grew w w3 (.slice none 0 0) v3) := HG.out.trans hg3
     clear ho3 hg3 HO HG d0 HA2
     go_wp2_with fail
     go_roundw
     case rel => exact ⟨2, xs ++ ys, by omega, by first | rfl | go_num, .inr (.inr ⟨rfl, rfl⟩), HO3, HG3⟩
     case measure => simp [intOf]
    ·go_wp2_with fail
     go_ret
     exact ⟨_, rfl, by have := HO.out; rw [HL.out] at this; exact this, HG.out⟩
def pk (cs : List Int) : Nat -> List Int
 | 0 => []
 | k + 1 => pk cs k ++ digits (cs.getD k 0)
theorem pk_len (cs : List Int) (k : Nat) : (pk cs k).length <= 5 * k := by
 induction k with
 | zero => simp [pk]
 | succ k ih => simp only [pk, List.length_append]; have := (ze9 (cs.getD k 0)).2; omega
def putR (s : List Int) (log : Int) : Int × List Int := if mayS s log = false then (4, []) else (0, [log] ++ pk ((s.length : Int) :: s) (s.length + 1))
theorem cs_bd {s : List Int} {lg : Nat} (h : Sok s lg) (i : Nat) : 0 <= ((s.length : Int) :: s).getD i 0 /\ ((s.length : Int) :: s).getD i 0 <= 4294967295 := by
 cases i with
 | zero => have := h.len; simp; omega
 | succ i =>
  have := h.le i
  have hz := h.z
  simp only [List.getD_cons_succ]
  omega
theorem own1 (w : World) (a : Int) : Owns .u8 5 (w.alloc (.cells #[.int .u8 a] 5)) (.slice (some ⟨w.heap.size, 0, none⟩) 1 1) [a] :=
 World.ownsRow_lit w #[.int .u8 a] 1 (Nat.zero_le _) (by unfold maxLen; omega) rfl
theorem own1i (w : World) (a : Int) : Owns .i64 3 (w.alloc (.cells #[.int .i64 a] 3)) (.slice (some ⟨w.heap.size, 0, none⟩) 1 1) [a] :=
 World.ownsRow_lit w #[.int .i64 a] 1 (Nat.zero_le _) (by unfold maxLen; omega) rfl
set_option maxRecDepth 100000 in
theorem zjr9 (v : Value) (s : List Int) (log : Int) (w : World) (h : Rd .i64 w v s) :
  Calls Tryz.prog 91 #[v, .int .i64 log] w fun e w' => EPostF (putR s log) w e w' := by
 have HR : Hid (Rd .i64 w v s) := h
 obtain ⟨va, vc, rfl, _, _, _, _⟩ := h
 have HMB : Hid (Calls Tryz.prog 119 #[.slice va s.length vc, .int .i64 log] w fun e w' => e = .returned (.bool (mayS s log)) /\ w' = w) := zau9 _ s log w HR.out
 go_enter Tryz.func91, Tryz.ntmps91
 go_wp2_with fail
 refine HMB.out.mono ?_
 clear HMB
 rintro e w1 ⟨rfl, rfl⟩
 cases hm : mayS s log with
 | false =>
  have HE : Hid (putR s log = (4, [])) := by show _ = _; unfold putR; rw [if_pos hm]
  clear hm
  go_wp2_with fail
  go_ret2
  rw [HE.out]
  exact EPostF.bad (Below.refl _ _)
 | true =>
  obtain ⟨lg, rfl, hsok⟩ := Sok.of hm
  have HS : Hid (Sok s lg) := hsok
  have h5 := hsok.lo
  have h9 := hsok.hi
  have hl := hsok.len
  obtain ⟨cs, hcs⟩ : ∃ cs, Hid ((s.length : Int) :: s = cs) := ⟨_, rfl⟩
  have hcl : cs.length = s.length + 1 := by rw [<- hcs.out]; rfl
  obtain ⟨N, hN⟩ : ∃ N, Hid (s.length + 1 = N) := ⟨_, rfl⟩
  have HCL : Hid (cs.length = N) := by show _ = _; rw [hcl, hN.out]
  have hN1 : 1 <= N /\ N <= 65 := by rw [<- hN.out]; omega
  have HE : Hid (putR s lg = (0, [(lg : Int)] ++ pk cs N)) := by show _ = _; unfold putR; rw [if_neg (by rw [hm]; simp), hcs.out, hN.out]
  have HCB : Hid (∀ i, 0 <= cs.getD i 0 /\ cs.getD i 0 <= 4294967295) := fun i => by rw [<- hcs.out]; exact cs_bd HS.out i
  obtain ⟨wa, hwa⟩ : ∃ wa, Hid (w1.alloc (.cells #[.int .u8 (lg : Int)] 5) = wa) := ⟨_, rfl⟩
  obtain ⟨wb, hwb⟩ : ∃ wb, Hid (wa.alloc (.cells #[.int .i64 (s.length : Int)] 3) = wb) := ⟨_, rfl⟩
  obtain ⟨wc, hwc⟩ : ∃ wc, Hid (wb.alloc (.cells #[.slice (some ⟨w1.heap.size + 1, 0, none⟩) 1 1, .slice va s.length vc] 56) = wc) := ⟨_, rfl⟩
  have sa : wa.heap.size = w1.heap.size + 1 := by rw [<- hwa.out]; simp
  have sb : wb.heap.size = wa.heap.size + 1 := by rw [<- hwb.out]; simp
  have b1a : Below w1.heap.size w1 wa := by rw [<- hwa.out]; exact (Below.refl _ _).alloc (Nat.le_refl _) _
  have bab : Below wa.heap.size wa wb := by rw [<- hwb.out]; exact (Below.refl _ _).alloc (Nat.le_refl _) _
  have bbc : Below wb.heap.size wb wc := by rw [<- hwc.out]; exact (Below.refl _ _).alloc (Nat.le_refl _) _
  have bac : Below wa.heap.size wa wc := bab.trans (bbc.mono bab.size)
  have B1C : Hid (Below w1.heap.size w1 wc) := b1a.trans (bac.mono b1a.size)
  have OA : Hid (Owns .u8 5 wc (.slice (some ⟨w1.heap.size, 0, none⟩) 1 1) [(lg : Int)]) := by
   have := own1 w1 (lg : Int)
   rw [hwa.out] at this
   exact this.below bac
  have OB : Hid (Owns .i64 3 wc (.slice (some ⟨w1.heap.size + 1, 0, none⟩) 1 1) [(s.length : Int)]) := by
   have := own1i wa (s.length : Int)
   rw [hwb.out, sa] at this
   exact this.below bbc
  have hw' : wc.heap[w1.heap.size + 1 + 1]? = some (.cells #[.slice (some ⟨w1.heap.size + 1, 0, none⟩) 1 1, .slice va s.length vc] 56 (0, 0)) := by rw [<- hwc.out]; have := heap_alloc_new wb (.cells #[.slice (some ⟨w1.heap.size + 1, 0, none⟩) 1 1, .slice va s.length vc] 56); rw [sb, sa] at this; exact this
  have d0 : wc.cell? ⟨w1.heap.size + 1 + 1, 0, none⟩ = some (.slice (some ⟨w1.heap.size + 1, 0, none⟩) 1 1) := by rw [cell_of_row _ _ 0 _ _ (0, 0) hw']; rfl
  have d1 : wc.cell? ⟨w1.heap.size + 1 + 1, 1, none⟩ = some (.slice va s.length vc) := by rw [cell_of_row _ _ 1 _ _ (0, 0) hw']; rfl
  have HCC : Hid (Calls Tryz.prog 120 #[.slice (some ⟨w1.heap.size + 1 + 1, 0, none⟩) 2 2] wc fun e w' => ∃ v', e = .returned v' /\ Owns .i64 3 w' v' cs /\ Grew wc w' (.slice none 0 0) v') := by
   have := zon9 (w1.heap.size + 1 + 1) _ _ [(s.length : Int)] s wc OB.out.rd (HR.out.below B1C.out) (by simp) (by simp) (by omega) d0 d1
   rw [List.singleton_append, hcs.out] at this
   exact this
  clear hm hsok b1a bab bbc bac OB hw' d0 d1 hcl
  go_wp2_with fail
  rw [hwa.out, hwb.out, hwc.out]
  refine HCC.out.mono ?_
  clear HCC
  rintro e w4 ⟨cv, rfl, ho4, hg4⟩
  obtain ⟨cb, cc, rfl, _, _, _, q4, _⟩ := ho4.shape (by rw [HCL.out]; omega)
  have HQ : Hid (∀ i, i < N -> w4.cell? ⟨cb, i, none⟩ = some (.int .i64 (cs.getD i 0))) := fun i hi => q4 i (by rw [HCL.out]; exact hi)
  have BC4 : Below wc.heap.size wc w4 := hg4.below.1
  have B14 : Hid (Below w1.heap.size w1 w4) := B1C.out.trans (BC4.mono B1C.out.size)
  have OA4 : Hid (Owns .u8 5 w4 (.slice (some ⟨w1.heap.size, 0, none⟩) 1 1) [(lg : Int)]) := OA.out.below BC4
  rw [HCL.out]
  clear ho4 hg4 q4 BC4 OA B1C sa sb
  go_wp2_with fail
  go_loopw [6, 25] (fun r i wr => ∃ k : Nat, k <= N /\ i = .int .i64 k /\ Hid (Owns .u8 5 wr r ([(lg : Int)] ++ pk cs k)) /\ Hid (∀ j, r.ownBlock = some j -> w1.heap.size <= j) /\ Hid (Below w4.heap.size w4 wr)) (fun _ i _ => N - (intOf i).toNat)
  case atStart => exact ⟨0, Nat.zero_le _, rfl, by show Owns _ _ _ _ _; simp only [pk, List.append_nil]; exact OA4.out, fun j e => by simp only [Value.ownBlock, Option.some.injEq] at e; omega, Below.refl _ _⟩
  case round =>
   clear OA4
   obtain ⟨k, hk, rfl, HO, HF, HBL⟩ := hrel
   by_cases hlt : k < N
   ·obtain ⟨x, hx⟩ : ∃ x, Hid (cs.getD k 0 = x) := ⟨_, rfl⟩
    have cx : wr.cell? ⟨cb, k, none⟩ = some (.int .i64 x) := by
     have h0 := HQ.out k hlt
     rw [HBL.out.cell (p := ⟨cb, k, none⟩) (World.block_lt_of_cell? w4 ⟨cb, k, none⟩ h0), h0, hx.out]
    have hxb := HCB.out k
    rw [hx.out] at hxb
    have hpl := pk_len cs k
    have HPN : Hid (Calls Tryz.prog 22 #[u6, .int .i64 x] wr fun e w' => ∃ v', e = .returned (.tuple #[v', .int .i64 0]) /\ Owns .u8 5 w' v' ([(lg : Int)] ++ pk cs (k + 1)) /\ Grew wr w' (.slice none 0 0) v') := by
     have := zld9 u6 ([(lg : Int)] ++ pk cs k) x wr HO.out.rd (by simp; omega) hxb.1 hxb.2
     simp only [pk]
     rw [hx.out, <- List.append_assoc]
     exact this
    clear hpl
    go_wp2_with fail
    refine HPN.out.mono ?_
    clear HPN
    rintro e w5 ⟨v5, rfl, ho5, hg5⟩
    have HO5 : Hid (Owns .u8 5 w5 v5 ([(lg : Int)] ++ pk cs (k + 1))) := ho5
    have B5 : Hid (Below w4.heap.size w4 w5) := HBL.out.trans (hg5.below.1.mono HBL.out.size)
    have F5 : Hid (∀ j, v5.ownBlock = some j -> w1.heap.size <= j) := fun j e => by
     have h1 := hg5.below.2 j e
     have h2 := HBL.out.size
     have h3 := B14.out.size
     omega
    clear ho5 hg5 HO HF HBL cx
    go_wp2_with fail
    go_roundw
    case rel => exact ⟨k + 1, by omega, by go_num, HO5, F5, B5⟩
    case measure => simp [intOf]; omega
   ·obtain rfl : k = N := by omega
    have BF : Hid (Below w1.heap.size w1 wr) := B14.out.trans (HBL.out.mono B14.out.size)
    go_wp2_with fail
    go_ret2
    rw [HE.out]
    exact ⟨_, rfl, BF.out, HF.out, HO.out⟩
set_option maxRecDepth 100000 in
theorem zfp9 (v : Value) (s : List Int) (log : Int) (w : World) (h : Rd .i64 w v s) :
  Calls Tryz.prog 39 #[v, .int .i64 log] w fun e w' => EPostF (putR s log) w e w' := by
 have HR : Hid (Rd .i64 w v s) := h
 obtain ⟨va, vc, rfl, _, _, _, q1⟩ := h
 have C1 : Hid (s = [] ∨ ∃ b o, va = some ⟨b, o, none⟩ /\ ∀ i, i < s.length -> w.cell? ⟨b, o + i, none⟩ = some (.int .i64 (s.getD i 0))) := q1
 clear q1
 have HMB : Hid (Calls Tryz.prog 64 #[.slice va s.length vc, .int .i64 log] w fun e w' => e = .returned (.bool (mayS s log)) /\ w' = w) := zmc9 _ s log w HR.out
 go_enter Tryz.func39, Tryz.ntmps39
 go_wp2_with fail
 refine HMB.out.mono ?_
 clear HMB
 rintro e w1 ⟨rfl, rfl⟩
 cases hm : mayS s log with
 | false =>
  have HE : Hid (putR s log = (4, [])) := by show _ = _; unfold putR; rw [if_pos hm]
  clear hm
  go_wp2_with fail
  go_ret2
  rw [HE.out]
  exact EPostF.bad (Below.refl _ _)
 | true =>
  obtain ⟨lg, rfl, hsok⟩ := Sok.of hm
  have HS : Hid (Sok s lg) := hsok
  have h5 := hsok.lo
  have h9 := hsok.hi
  have hl := hsok.len
  obtain ⟨cs, hcs⟩ : ∃ cs, Hid ((s.length : Int) :: s = cs) := ⟨_, rfl⟩
  have HE : Hid (putR s lg = (0, [(lg : Int)] ++ pk cs (s.length + 1))) := by show _ = _; unfold putR; rw [if_neg (by rw [hm]; simp), hcs.out]
  have HCB : Hid (∀ i, 0 <= cs.getD i 0 /\ cs.getD i 0 <= 4294967295) := fun i => by rw [<- hcs.out]; exact cs_bd HS.out i
  obtain ⟨b, o, ha, hc⟩ : ∃ b o, va = some ⟨b, o, none⟩ /\ ∀ i, i < s.length -> w1.cell? ⟨b, o + i, none⟩ = some (.int .i64 (s.getD i 0)) := by
   rcases C1.out with h | h
   ·have := hsok.pos; rw [h] at this; simp at this
   ·exact h
  subst ha
  have HC : Hid (∀ i, i < s.length -> w1.cell? ⟨b, o + i, none⟩ = some (.int .i64 (cs.getD (i + 1) 0))) := fun i hi => by rw [hc i hi, <- hcs.out]; rfl
  obtain ⟨wa, hwa⟩ : ∃ wa, Hid (w1.alloc (.cells #[.int .u8 (lg : Int)] 5) = wa) := ⟨_, rfl⟩
  have B1A : Hid (Below w1.heap.size w1 wa) := by show Below _ _ _; rw [<- hwa.out]; exact (Below.refl _ _).alloc (Nat.le_refl _) _
  have OA : Hid (Owns .u8 5 wa (.slice (some ⟨w1.heap.size, 0, none⟩) 1 1) [(lg : Int)]) := by
   have := own1 w1 (lg : Int)
   rw [hwa.out] at this
   exact this
  have HP0 : Hid (Calls Tryz.prog 57 #[.slice (some ⟨w1.heap.size, 0, none⟩) 1 1, .int .i64 (s.length : Int)] wa fun e w' => ∃ v', e = .returned (.tuple #[v', .int .i64 0]) /\ Owns .u8 5 w' v' ([(lg : Int)] ++ pk cs 1) /\ Grew wa w' (.slice none 0 0) v') := by
   have := zcq9 _ [(lg : Int)] (s.length : Int) wa OA.out.rd (by simp) (by omega) (by omega)
   simp only [pk, List.nil_append]
   rw [<- hcs.out]
   exact this
  clear hm hsok hc C1 OA
  go_wp2_with fail
  rw [hwa.out]
  refine HP0.out.mono ?_
  clear HP0
  rintro e w4 ⟨v4, rfl, ho4, hg4⟩
  have B14 : Hid (Below w1.heap.size w1 w4) := B1A.out.trans (hg4.below.1.mono B1A.out.size)
  have O4 : Hid (Owns .u8 5 w4 v4 ([(lg : Int)] ++ pk cs 1)) := ho4
  have F4 : Hid (∀ j, v4.ownBlock = some j -> w1.heap.size <= j) := fun j e => by
   have h1 := hg4.below.2 j e
   have h2 := B1A.out.size
   omega
  clear ho4 hg4 B1A
  go_wp2_with fail
  go_loopw [7, 8] (fun r i wr => ∃ k : Nat, k <= s.length /\ i = .int .i64 k /\ Hid (Owns .u8 5 wr r ([(lg : Int)] ++ pk cs (k + 1))) /\ Hid (∀ j, r.ownBlock = some j -> w1.heap.size <= j) /\ Hid (Below w1.heap.size w1 wr)) (fun _ i _ => s.length - (intOf i).toNat)
  case atStart => exact ⟨0, Nat.zero_le _, rfl, O4, F4, B14⟩
  case round =>
   clear O4 F4 B14
   obtain ⟨k, hk, rfl, HO, HF, HBL⟩ := hrel
   by_cases hlt : k < s.length
   ·obtain ⟨x, hx⟩ : ∃ x, Hid (cs.getD (k + 1) 0 = x) := ⟨_, rfl⟩
    have cx : wr.cell? ⟨b, o + k, none⟩ = some (.int .i64 x) := by
     have h0 := HC.out k hlt
     rw [HBL.out.cell (p := ⟨b, o + k, none⟩) (World.block_lt_of_cell? w1 ⟨b, o + k, none⟩ h0), h0, hx.out]
    have hxb := HCB.out (k + 1)
    rw [hx.out] at hxb
    have hpl := pk_len cs (k + 1)
    have HPN : Hid (Calls Tryz.prog 57 #[u7, .int .i64 x] wr fun e w' => ∃ v', e = .returned (.tuple #[v', .int .i64 0]) /\ Owns .u8 5 w' v' ([(lg : Int)] ++ pk cs (k + 1 + 1)) /\ Grew wr w' (.slice none 0 0) v') := by
     have := zcq9 u7 ([(lg : Int)] ++ pk cs (k + 1)) x wr HO.out.rd (by rw [List.length_append]; simp only [List.length_cons, List.length_nil]; omega) hxb.1 hxb.2
     rw [show pk cs (k + 1 + 1) = pk cs (k + 1) ++ digits (cs.getD (k + 1) 0) from rfl]
     rw [hx.out, <- List.append_assoc]
     exact this
    clear hpl
    go_wp2_with fail
    refine HPN.out.mono ?_
    clear HPN
    rintro e w5 ⟨v5, rfl, ho5, hg5⟩
    have HO5 : Hid (Owns .u8 5 w5 v5 ([(lg : Int)] ++ pk cs (k + 1 + 1))) := ho5
    have B5 : Hid (Below w1.heap.size w1 w5) := HBL.out.trans (hg5.below.1.mono HBL.out.size)
    have F5 : Hid (∀ j, v5.ownBlock = some j -> w1.heap.size <= j) := fun j e => by
     have h1 := hg5.below.2 j e
     have h2 := HBL.out.size
     omega
    clear ho5 hg5 HO HF HBL cx
    go_wp2_with fail
    go_roundw
    case rel => exact ⟨k + 1, by omega, by go_num, HO5, F5, B5⟩
    case measure => simp [intOf]; omega
   ·obtain rfl : k = s.length := by omega
    go_wp2_with fail
    go_ret2
    rw [HE.out]
    exact ⟨_, rfl, HBL.out, HF.out, HO.out⟩
end Go.Proofs.YtobenjkacpipeaaGreat
