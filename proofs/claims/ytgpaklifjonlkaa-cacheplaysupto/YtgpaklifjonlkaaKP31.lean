import Derived.Test.YtgpaklifjonlkaaKP30
import Derived.Test.YtgpaklifjonlkaaKP23
import Derived.Test.YtgpaklifjonlkaaKP09
import Derived.Deep.RegionHeld3
/-
  The document's find, without, Numbers.
-/
namespace Go.Proofs.Ytgpaklifjonlkaa
open Go.RowKit
set_option linter.unusedVariables false
set_option linter.unusedSimpArgs false
set_option maxRecDepth 100000

/-- Where the number stands. -/
def FnH (ps : List Hd) (n : Int) (z : Int) : Prop :=
  (z = -1 ∧ ∀ x, x ∈ ps → (x.n : Int) ≠ n) ∨ ∃ (k : Nat) (x : Hd), ps[k]? = some x ∧ z = (k : Int) ∧ (x.n : Int) = n

set_option maxHeartbeats 400000 in
theorem find_any (v : Value) (ps : List Hd) (n : Int) (w : World) (h : RdH w v ps) : Calls Try.prog 53 #[v, .int .i64 n] w fun e w' => ∃ z, e = .returned (.int .i64 z) ∧ FnH ps n z ∧ w' = w := by
  have HR : Hid (RdH w v ps) := h
  obtain ⟨a, cap, rfl, h1, h2⟩ := h.len
  obtain ⟨m, hm⟩ : ∃ m, ps.length = m := ⟨_, rfl⟩
  rw [hm] at HR h1 ⊢
  have HM : Hid (ps.length = m) := hm
  clear h hm
  go_enter Try.func53, Try.ntmps53
  go_wp2_with fail
  go_loopw [5] (fun iv wr => ∃ k : Nat, k ≤ m ∧ iv = .int .i64 k ∧ wr = w ∧ Hid (∀ j x, j < k → ps[j]? = some x → (x.n : Int) ≠ n)) (fun iv _ => m - (intOf iv).toNat)
  case atStart => exact ⟨0, Nat.zero_le _, rfl, rfl, fun j x hj => by omega⟩
  case round =>
    obtain ⟨k, hk, rfl, rfl, HA⟩ := hrel
    by_cases hkm : k < m
    · have hki : (k : Int) < (m : Int) := by omega
      obtain ⟨x, hx⟩ : ∃ x, ps[k]? = some x := ⟨_, List.getElem?_eq_getElem (by rw [HM.out]; exact hkm)⟩
      obtain ⟨b, o, rfl, hc⟩ := HR.out.at_ hx
      have HX : Hid (ps[k]? = some x) := hx
      have c0 := hc.c0
      obtain ⟨xn, hxn⟩ : ∃ xn, (x.n : Int) = xn := ⟨_, rfl⟩
      rw [hxn] at c0
      have HXN : Hid ((x.n : Int) = xn) := hxn
      clear hx hc hxn
      by_cases he : xn = n
      · have he1 : (xn == n) = true := by rw [beq_iff_eq]; exact he
        go_wp2_with fail
        go_ret
        exact ⟨_, rfl, .inr ⟨k, x, HX.out, rfl, by rw [HXN.out]; exact he⟩, rfl⟩
      · have he1 : (xn == n) = false := by rw [beq_eq_false_iff_ne]; exact he
        have HA2 : Hid (∀ j y, j < k + 1 → ps[j]? = some y → (y.n : Int) ≠ n) := fun j y hj hy => by
          by_cases e : j = k
          · subst e
            rw [HX.out] at hy
            cases hy
            rw [HXN.out]; exact he
          · exact HA.out j y (by omega) hy
        clear HA
        go_wp2_with fail
        go_roundw
        case rel => exact ⟨k + 1, by omega, by go_num, by first | rfl | trivial, HA2⟩
        case measure => simp [intOf]; omega
    · have hki : ¬ (k : Int) < (m : Int) := by omega
      have hkd : decide (k < m) = false := by simp; omega
      go_wp2_with fail
      go_ret
      refine ⟨_, rfl, .inl ⟨rfl, fun x hx => ?_⟩, rfl⟩
      obtain ⟨j, hj, rfl⟩ := List.getElem_of_mem hx
      exact HA.out j _ (by have := HM.out; omega) (List.getElem?_eq_getElem hj)

def hwo (ps : List Hd) (n : Int) : List Hd := ps.filter fun x => decide ((x.n : Int) ≠ n)

set_option maxHeartbeats 400000 in
theorem without_anyK (v : Value) (ps : List Hd) (n : Int) (w : World) (h : RdH w v ps) (hs : ∀ x, x ∈ ps → Slv x.v) (hl : ps.length ≤ 5000) : Calls Try.prog 56 #[v, .int .i64 n] w fun e w' => ∃ v', e = .returned v' ∧ OwnsH w' v' (hwo ps n) ∧ Below w.heap.size w w' ∧ ∀ k, v'.ownBlock = some k → w.heap.size ≤ k := by
  have HR : Hid (RdH w v ps) := h
  have HSV : Hid (∀ x, x ∈ ps → Slv x.v) := hs
  obtain ⟨a, cap, rfl, h1, h2⟩ := h.len
  obtain ⟨m, hm⟩ : ∃ m, ps.length = m := ⟨_, rfl⟩
  rw [hm] at HR h1 hl ⊢
  have HM : Hid (ps.length = m) := hm
  clear h hm hs
  go_enter Try.func56, Try.ntmps56
  go_wp2_with fail
  go_loopw [5, 6] (fun ov iv wr => ∃ (k : Nat) (v0 : Value), k ≤ m ∧ iv = .int .i64 k ∧ v0 = ov ∧ Hid (OwnsH wr v0 (hwo (ps.take k) n)) ∧ Hid (Below w.heap.size w wr) ∧ Hid (∀ j, v0.ownBlock = some j → w.heap.size ≤ j)) (fun _ iv _ => m - (intOf iv).toNat)
  case atStart => exact ⟨0, _, Nat.zero_le _, rfl, rfl, by rw [List.take_zero]; exact ownsH_nil _, Below.refl _ _, fun j e => by cases e⟩
  case round =>
    obtain ⟨k, v0, hk, rfl, rfl, OV, BV, NV⟩ := hrel
    by_cases hkm : k < m
    · have hki : (k : Int) < (m : Int) := by omega
      obtain ⟨x, hx⟩ : ∃ x, ps[k]? = some x := ⟨_, List.getElem?_eq_getElem (by rw [HM.out]; exact hkm)⟩
      obtain ⟨b, o, rfl, hc⟩ := (HR.out.below BV.out).at_ hx
      have HTK : Hid (ps.take (k + 1) = ps.take k ++ [x]) := by show _ = _; rw [List.take_add_one, hx]; rfl
      have HSX : Hid (Slv x.v) := HSV.out x (List.mem_of_getElem? hx)
      obtain ⟨xn, xk, xv⟩ := x
      obtain ⟨xa, xm, xc, hxv⟩ := HSX.out
      simp only at hxv
      subst hxv
      have c0 := hc.c0
      have c1 := hc.c1
      have c2 := hc.c2
      simp only at c0 c1 c2
      clear hx hc
      by_cases he : (xn : Int) = n
      · have he1 : ((xn : Int) == n) = true := by rw [beq_iff_eq]; exact he
        have he2 : ((xn : Int) != n) = false := by rw [bne, he1]; rfl
        have OV2 : Hid (OwnsH wr v0 (hwo (ps.take (k + 1)) n)) := by
          rw [HTK.out]
          unfold hwo
          rw [List.filter_append]
          have e : List.filter (fun x : Hd => decide ((x.n : Int) ≠ n)) [⟨xn, xk, .slice xa xm xc⟩] = [] := by simp [he]
          rw [e, List.append_nil]
          exact OV.out
        clear he
        go_wp2_with fail
        go_roundw
        case rel => exact ⟨k + 1, _, by omega, by go_num, rfl, OV2, BV, NV⟩
        case measure => simp [intOf]; omega
      · have he1 : ((xn : Int) == n) = false := by rw [beq_eq_false_iff_ne]; exact he
        have he2 : ((xn : Int) != n) = true := by rw [bne, he1]; rfl
        have HE : Hid (hwo (ps.take (k + 1)) n = hwo (ps.take k) n ++ [⟨xn, xk, .slice xa xm xc⟩]) := by
          show _ = _
          rw [HTK.out]
          unfold hwo
          rw [List.filter_append]
          have e : List.filter (fun x : Hd => decide ((x.n : Int) ≠ n)) [⟨xn, xk, .slice xa xm xc⟩] = [⟨xn, xk, .slice xa xm xc⟩] := by simp [he]
          rw [e]
        have HLL : Hid ((hwo (ps.take k) n).length ≤ 100000) := by
          show _ ≤ _
          have h1 : (hwo (ps.take k) n).length ≤ (ps.take k).length := List.length_filter_le _ _
          have h2 : (ps.take k).length ≤ ps.length := by rw [List.length_take]; omega
          have h3 := HM.out
          omega
        clear he
        go_wp2_with (at_builtin; refine wpList_pushH _ rfl (.tmp 20) (.tmp 25) rfl v0 (hwo (ps.take k) n) rfl OV.out ⟨xn, xk, .slice xa xm xc⟩ ⟨_, _, _, rfl⟩ rfl HLL.out ?_)
        intro v2 w2 o2 g2
        rw [← HE.out] at o2
        have O2 : Hid (OwnsH w2 v2 (hwo (ps.take (k + 1)) n)) := o2
        have gn := g2.onto BV.out NV.out
        have B2 : Hid (Below w.heap.size w w2) := gn.1
        have N2 : Hid (∀ j, v2.ownBlock = some j → w.heap.size ≤ j) := gn.2
        clear o2 g2 gn OV BV NV HE
        go_wp2_with fail
        go_roundw
        case rel => exact ⟨k + 1, _, by omega, by go_num, rfl, O2, B2, N2⟩
        case measure => simp [intOf]; omega
    · have hki : ¬ (k : Int) < (m : Int) := by omega
      have hkd : decide (k < m) = false := by simp; omega
      have OV2 : Hid (OwnsH wr v0 (hwo ps n)) := by
        have := OV.out
        rw [List.take_of_length_le (by have := HM.out; omega)] at this
        exact this
      clear OV
      go_wp2_with fail
      go_ret
      exact ⟨_, rfl, OV2.out, BV.out, NV.out⟩

set_option maxHeartbeats 400000 in
theorem numbersH_any (v : Value) (ps : List Hd) (w : World) (h : RdH w v ps) (hl : ps.length ≤ 5000) : Calls Try.prog 14 #[v] w fun e w' => ∃ v', e = .returned v' ∧ OwnsK w' v' (ps.map fun x => (x.n : Int)) ∧ Below w.heap.size w w' ∧ ∀ k, v'.ownBlock = some k → w.heap.size ≤ k := by
  have HR : Hid (RdH w v ps) := h
  obtain ⟨a, cap, rfl, h1, h2⟩ := h.len
  obtain ⟨m, hm⟩ : ∃ m, ps.length = m := ⟨_, rfl⟩
  rw [hm] at HR h1 hl ⊢
  have HM : Hid (ps.length = m) := hm
  clear h hm
  go_enter Try.func14, Try.ntmps14
  go_wp2_with fail
  go_loopw [3, 4] (fun ov iv wr => ∃ (k : Nat) (v0 : Value), k ≤ m ∧ iv = .int .i64 k ∧ v0 = ov ∧ Hid (OwnsK wr v0 ((ps.take k).map fun x => (x.n : Int))) ∧ Hid (Below w.heap.size w wr) ∧ Hid (∀ j, v0.ownBlock = some j → w.heap.size ≤ j)) (fun _ iv _ => m - (intOf iv).toNat)
  case atStart => exact ⟨0, _, Nat.zero_le _, rfl, rfl, by rw [List.take_zero]; exact owns_nil _ _ _, Below.refl _ _, fun j e => by cases e⟩
  case round =>
    obtain ⟨k, v0, hk, rfl, rfl, OV, BV, NV⟩ := hrel
    by_cases hkm : k < m
    · have hki : (k : Int) < (m : Int) := by omega
      obtain ⟨x, hx⟩ : ∃ x, ps[k]? = some x := ⟨_, List.getElem?_eq_getElem (by rw [HM.out]; exact hkm)⟩
      obtain ⟨b, o, rfl, hc⟩ := (HR.out.below BV.out).at_ hx
      have HTK : Hid ((ps.take (k + 1)).map (fun x => (x.n : Int)) = (ps.take k).map (fun x => (x.n : Int)) ++ [(x.n : Int)]) := by show _ = _; rw [List.take_add_one, hx, List.map_append]; rfl
      have HLL : Hid (((ps.take k).map fun x => (x.n : Int)).length ≤ 5000) := by show _ ≤ _; rw [List.length_map, List.length_take]; omega
      have c0 := hc.c0
      obtain ⟨xn, hxn⟩ : ∃ xn, (x.n : Int) = xn := ⟨_, rfl⟩
      rw [hxn] at c0 HTK
      obtain ⟨XS, hXS⟩ : ∃ XS, (ps.take k).map (fun x => (x.n : Int)) = XS := ⟨_, rfl⟩
      rw [hXS] at HTK HLL OV
      clear hx hc hxn hXS
      go_wp2_with (at_builtin; refine wpList_push _ rfl (.tmp 11) (.tmp 17) 41 rfl 3 .i64 8 elemI v0 XS rfl OV.out xn rfl (by have := HLL.out; omega) (by have := HLL.out; omega) ?_)
      intro v2 w2 o2 g2
      rw [← HTK.out] at o2
      have O2 : Hid (OwnsK w2 v2 ((ps.take (k + 1)).map fun x => (x.n : Int))) := o2
      have gn := g2.onto BV.out NV.out
      have B2 : Hid (Below w.heap.size w w2) := gn.1
      have N2 : Hid (∀ j, v2.ownBlock = some j → w.heap.size ≤ j) := gn.2
      clear o2 g2 gn OV BV NV HTK
      go_wp2_with fail
      go_roundw
      case rel => exact ⟨k + 1, _, by omega, by go_num, rfl, O2, B2, N2⟩
      case measure => simp [intOf]; omega
    · have hki : ¬ (k : Int) < (m : Int) := by omega
      have hkd : decide (k < m) = false := by simp; omega
      have OV2 : Hid (OwnsK wr v0 (ps.map fun x => (x.n : Int))) := by
        have := OV.out
        rw [List.take_of_length_le (by have := HM.out; omega)] at this
        exact this
      clear OV
      go_wp2_with fail
      go_ret
      exact ⟨_, rfl, OV2.out, BV.out, NV.out⟩
end Go.Proofs.Ytgpaklifjonlkaa
/-
  The document's cache in memory; one forgotten; one asked.
-/
namespace Go.Proofs.Ytgpaklifjonlkaa
open Go.RowKit
set_option linter.unusedVariables false
set_option linter.unusedSimpArgs false
set_option maxRecDepth 100000

def hdk (B : Nat → Int × List Int) (V : Nat → Value) (n : Nat) : Hd := ⟨n, (B n).1, V n⟩
theorem hwo_map (l : List Nat) (B : Nat → Int × List Int) (V : Nat → Value) (n : Int) : hwo (l.map (hdk B V)) n = (kwo l n).map (hdk B V) := by
  unfold hwo kwo
  rw [List.filter_map]
  rfl
structure RqAt (Y : Nat → Prop) (w : World) (q r : Nat) (s : CS) (dv cv : Value) (V : Nat → Value) : Prop where
  box : w.heap[q]? = some (.cells #[.pointer (some ⟨r, 0, none⟩), .int .i64 (s.rm : Int), dv, cv] 36 (0, 0))
  dr : RdH w dv (s.d.map (hdk s.B V))
  cr : RdH w cv (s.c.map (hdk s.B V))
  bod : ∀ n, n ∈ s.d ∨ n ∈ s.c → Rd .u8 w (V n) (s.B n).2
  dq : ∀ k, dv.ownBlock = some k → s.d ≠ [] → Y k ∧ k ≠ q
  cq : ∀ k, cv.ownBlock = some k → s.c ≠ [] → Y k ∧ k ≠ q
  bq : ∀ n, n ∈ s.d ∨ n ∈ s.c → ∀ k, (V n).ownBlock = some k → (s.B n).2 ≠ [] → Y k ∧ k ≠ q
  rm1 : s.c.length ≤ s.rm
  rm2 : s.rm ≤ 1024
  rm3 : 1 ≤ s.rm
  dl : s.d.length ≤ 4096
  yq : Y q
  ylt : ∀ k, Y k → k < w.heap.size
/-- The document's cache at block q, over the disk at r. -/
def Rq (Y : Nat → Prop) (w : World) (q r : Nat) (s : CS) : Prop := ∃ dv cv V, RqAt Y w q r s dv cv V
def RqTo (Y : Nat → Prop) (w w' : World) (q r : Nat) (s : CS) : Prop := ∃ Y', Rq Y' w' q r s ∧ Tch (fun k => k = q) w w' ∧ ∀ k, Y' k → Y k ∨ w.heap.size ≤ k

section
variable {Y : Nat → Prop} {w w' : World} {q r : Nat} {s s' : CS} {dv cv dv' cv' : Value} {V V' : Nat → Value}
theorem RqAt.c0 (h : RqAt Y w q r s dv cv V) : w.cell? ⟨q, 0, none⟩ = some (.pointer (some ⟨r, 0, none⟩)) := by rw [cell_of_row w q 0 _ _ (0, 0) h.box]; rfl
theorem RqAt.c1 (h : RqAt Y w q r s dv cv V) : w.cell? ⟨q, 1, none⟩ = some (.int .i64 (s.rm : Int)) := by rw [cell_of_row w q 1 _ _ (0, 0) h.box]; rfl
theorem RqAt.c2 (h : RqAt Y w q r s dv cv V) : w.cell? ⟨q, 2, none⟩ = some dv := by rw [cell_of_row w q 2 _ _ (0, 0) h.box]; rfl
theorem RqAt.c3 (h : RqAt Y w q r s dv cv V) : w.cell? ⟨q, 3, none⟩ = some cv := by rw [cell_of_row w q 3 _ _ (0, 0) h.box]; rfl
theorem RqAt.fz (h : RqAt Y w q r s dv cv V) (i : Nat) : w.frozen? ⟨q, i, none⟩ = false := frozen_of_row w q i _ _ h.box
theorem RqAt.lt (h : RqAt Y w q r s dv cv V) : q < w.heap.size := (Array.getElem?_eq_some_iff.1 h.box).1
theorem RqAt.tch (h : RqAt Y w q r s dv cv V) {R : Nat → Prop} (ht : Tch R w w') (hn : ∀ k, Y k → ¬ R k) : RqAt Y w' q r s dv cv V where
  box := by rw [ht.block q h.lt (hn q h.yq)]; exact h.box
  dr := h.dr.tch ht (fun k hk h0 => hn k (h.dq k hk (fun e => h0 (by rw [e]; rfl))).1)
  cr := h.cr.tch ht (fun k hk h0 => hn k (h.cq k hk (fun e => h0 (by rw [e]; rfl))).1)
  bod := fun n hm => (h.bod n hm).tch0 ht (fun k hk h0 => hn k (h.bq n hm k hk h0).1)
  dq := h.dq
  cq := h.cq
  bq := h.bq
  rm1 := h.rm1
  rm2 := h.rm2
  rm3 := h.rm3
  dl := h.dl
  yq := h.yq
  ylt := fun k hk => Nat.lt_of_lt_of_le (h.ylt k hk) ht.size
theorem RqAt.below (h : RqAt Y w q r s dv cv V) (hb : Below w.heap.size w w') : RqAt Y w' q r s dv cv V := h.tch (R := fun _ => False) (Tch.of_below hb) (fun _ _ e => e)
theorem RqAt.slv (h : RqAt Y w q r s dv cv V) {n : Nat} (hn : n ∈ s.d ∨ n ∈ s.c) : Slv (V n) := by obtain ⟨a, c, e, _⟩ := h.bod n hn; exact ⟨_, _, _, e⟩
theorem Rq.tch (h : Rq Y w q r s) {R : Nat → Prop} (ht : Tch R w w') (hn : ∀ k, Y k → ¬ R k) : Rq Y w' q r s := by
  obtain ⟨dv, cv, V, h⟩ := h
  exact ⟨dv, cv, V, h.tch ht hn⟩
theorem Rq.below (h : Rq Y w q r s) (hb : Below w.heap.size w w') : Rq Y w' q r s := h.tch (R := fun _ => False) (Tch.of_below hb) (fun _ _ e => e)
theorem Rq.lt (h : Rq Y w q r s) : ∀ k, Y k → k < w.heap.size := by obtain ⟨_, _, _, h⟩ := h; exact h.ylt
theorem Rq.to_below (h : Rq Y w q r s) (hb : Below w.heap.size w w') : RqTo Y w w' q r s := ⟨Y, h.below hb, Tch.of_below hb, fun _ e => .inl e⟩
theorem RqTo.after {Y0 : Nat → Prop} {w0 : World} (ht : Tch (fun k => k = q) w0 w) (hx : ∀ k, Y k → Y0 k ∨ w0.heap.size ≤ k) (h : RqTo Y w w' q r s) : RqTo Y0 w0 w' q r s := by
  obtain ⟨Y', h1, h2, h3⟩ := h
  refine ⟨Y', h1, ht.trans h2 (fun _ _ e => e), fun k hk => ?_⟩
  rcases h3 k hk with e | e
  · exact hx k e
  · exact .inr (Nat.le_trans ht.size e)

/-- It has turned. -/
theorem RqAt.turn (h : RqAt Y w q r s dv cv V) (ht : Tch (fun k => k = q) w w')
    (box' : w'.heap[q]? = some (.cells #[.pointer (some ⟨r, 0, none⟩), .int .i64 (s'.rm : Int), dv', cv'] 36 (0, 0)))
    (dr' : RdH w' dv' (s'.d.map (hdk s'.B V'))) (cr' : RdH w' cv' (s'.c.map (hdk s'.B V')))
    (hd : ∀ k, dv'.ownBlock = some k → s'.d ≠ [] → (dv.ownBlock = some k ∧ s.d ≠ []) ∨ w.heap.size ≤ k) (hc : ∀ k, cv'.ownBlock = some k → s'.c ≠ [] → (cv.ownBlock = some k ∧ s.c ≠ []) ∨ w.heap.size ≤ k)
    (hbody : ∀ n, n ∈ s'.d ∨ n ∈ s'.c → ((n ∈ s.d ∨ n ∈ s.c) ∧ V' n = V n ∧ s'.B n = s.B n) ∨ (Rd .u8 w' (V' n) (s'.B n).2 ∧ ∀ k, (V' n).ownBlock = some k → (s'.B n).2 ≠ [] → (Y k ∨ w.heap.size ≤ k) ∧ k ≠ q))
    (rm1 : s'.c.length ≤ s'.rm) (rm2 : s'.rm = s.rm) (dl : s'.d.length ≤ 4096) : RqTo Y w w' q r s' := by
  have hq := h.lt
  have hold : ∀ n, n ∈ s.d ∨ n ∈ s.c → Rd .u8 w' (V n) (s.B n).2 := fun n hn => (h.bod n hn).tch0 ht (fun k hk h0 e => (h.bq n hn k hk h0).2 e)
  have hsz := ht.size
  refine ⟨fun k => Y k ∨ (w.heap.size ≤ k ∧ k < w'.heap.size), ⟨dv', cv', V', ?_⟩, ht, fun k hk => hk.imp id (fun e => e.1)⟩
  exact {
    box := box'
    dr := dr'
    cr := cr'
    bod := fun n hn => by
      rcases hbody n hn with ⟨h1, h2, h3⟩ | ⟨h1, _⟩
      · rw [h2, h3]; exact hold n h1
      · exact h1
    dq := fun k hk h0 => by
      rcases hd k hk h0 with ⟨e, e0⟩ | e
      · exact ⟨.inl (h.dq k e e0).1, (h.dq k e e0).2⟩
      · exact ⟨.inr ⟨e, dr'.lt (by simpa using h0) hk⟩, by omega⟩
    cq := fun k hk h0 => by
      rcases hc k hk h0 with ⟨e, e0⟩ | e
      · exact ⟨.inl (h.cq k e e0).1, (h.cq k e e0).2⟩
      · exact ⟨.inr ⟨e, cr'.lt (by simpa using h0) hk⟩, by omega⟩
    bq := fun n hn k hk h0 => by
      rcases hbody n hn with ⟨h1, h2, h3⟩ | ⟨h1, h2⟩
      · rw [h2] at hk
        rw [h3] at h0
        obtain ⟨q1, q2⟩ := h.bq n h1 k hk h0
        exact ⟨.inl q1, q2⟩
      · obtain ⟨q1, q2⟩ := h2 k hk h0
        exact ⟨q1.imp id (fun e => ⟨e, h1.blk_lt h0 hk⟩), q2⟩
    rm1 := rm1
    rm2 := by rw [rm2]; exact h.rm2
    rm3 := by rw [rm2]; exact h.rm3
    dl := dl
    yq := .inl h.yq
    ylt := fun k hk => by
      rcases hk with e | e
      · have := h.ylt k e; omega
      · exact e.2 }
end

set_option maxHeartbeats 400000 in
theorem rforget_any {Y : Nat → Prop} {q r : Nat} {s : CS} (n : Int) (w : World) (hQ : Rq Y w q r s) :
    Calls Try.prog 28 #[cp q, .int .i64 n] w fun e w' => e = .returned (.tuple #[]) ∧ RqTo Y w w' q r (s.forget n) := by
  obtain ⟨dv, cv, V, h⟩ := hQ
  have H : Hid (RqAt Y w q r s dv cv V) := h
  have sv : ∀ l : List Nat, (∀ m, m ∈ l → m ∈ s.d ∨ m ∈ s.c) → ∀ x, x ∈ l.map (hdk s.B V) → Slv x.v := fun l hl x hx => by
    obtain ⟨m, hm, rfl⟩ := List.mem_map.1 hx
    exact h.slv (hl m hm)
  have HW1 := hideP (without_anyK dv (s.d.map (hdk s.B V)) n w h.dr (sv _ (fun _ e => .inl e)) (by rw [List.length_map]; have := h.dl; omega))
  rw [hwo_map] at HW1
  have HSV : Hid (∀ x, x ∈ s.c.map (hdk s.B V) → Slv x.v) := sv _ (fun _ e => .inr e)
  have c2 := h.c2
  clear h sv
  go_enter Try.func28, Try.ntmps28
  go_wp2_with fail
  refine HW1.out.mono ?_
  rintro e w1 ⟨v1, rfl, o1, b1, n1⟩
  have H1 : Hid (RqAt Y w1 q r s dv cv V) := H.out.below b1
  have B1 : Hid (Below w.heap.size w w1) := b1
  have O1 : Hid (OwnsH w1 v1 ((kwo s.d n).map (hdk s.B V))) := o1
  have N1 : Hid (∀ k, v1.ownBlock = some k → w.heap.size ≤ k) := n1
  obtain ⟨va, vm, vc, rfl⟩ : ∃ a m cap, v1 = .slice a m cap := by obtain ⟨a, c, e, _⟩ := o1.rd; exact ⟨_, _, _, e⟩
  have d2 := H1.out.c2
  have f2 := H1.out.fz 2
  obtain ⟨W2, hW2⟩ : ∃ W2, w1.setCell ⟨q, 2, none⟩ (.slice va vm vc) = W2 := ⟨_, rfl⟩
  have T2 : Hid (Tch (fun k => k = q) w1 W2) := by rw [← hW2]; exact tch_set w1 q 2 _
  have X2 : Hid (W2.heap[q]? = some (.cells #[.pointer (some ⟨r, 0, none⟩), .int .i64 (s.rm : Int), .slice va vm vc, cv] 36 (0, 0))) := by rw [← hW2, heap_setCell_same w1 q 2 _ _ _ H1.out.box]; rfl
  have C2 : Hid (RdH W2 cv (s.c.map (hdk s.B V))) := H1.out.cr.tch T2.out (fun k hk h0 => (H1.out.cq k hk (fun e => h0 (by rw [e]; rfl))).2)
  have HW2 := hideP (without_anyK cv (s.c.map (hdk s.B V)) n W2 C2.out HSV.out (by rw [List.length_map]; have := H.out.rm1; have := H.out.rm2; omega))
  rw [hwo_map] at HW2
  have e3 : W2.cell? ⟨q, 3, none⟩ = some cv := by rw [cell_of_row W2 q 3 _ _ (0, 0) X2.out]; rfl
  clear o1 b1 n1 HW1 c2
  go_wp2_with fail
  refine HW2.out.mono ?_
  rintro e w3 ⟨v3, rfl, o3, b3, n3⟩
  have X3 : Hid (w3.heap[q]? = some (.cells #[.pointer (some ⟨r, 0, none⟩), .int .i64 (s.rm : Int), .slice va vm vc, cv] 36 (0, 0))) := by rw [b3.block q (Array.getElem?_eq_some_iff.1 X2.out).1]; exact X2.out
  have O3 : Hid (OwnsH w3 v3 ((kwo s.c n).map (hdk s.B V))) := o3
  have TW3 : Hid (Tch (fun k => k = q) w w3) := ((Tch.of_below B1.out).trans T2.out (fun _ _ e => e)).trans (Tch.of_below b3) (fun _ _ e => e)
  have N3 : Hid (∀ k, v3.ownBlock = some k → w.heap.size ≤ k) := fun k hk => by
    have := n3 k hk; have := T2.out.size; have := B1.out.size; omega
  have D3 : Hid (OwnsH w3 (.slice va vm vc) ((kwo s.d n).map (hdk s.B V))) := (O1.out.tch T2.out (fun k hk e => by have := N1.out k hk; have := H.out.lt; omega)).below b3
  obtain ⟨ua, um, uc, rfl⟩ : ∃ a m cap, v3 = .slice a m cap := by obtain ⟨a, c, e, _⟩ := o3.rd; exact ⟨_, _, _, e⟩
  have y3 : w3.cell? ⟨q, 3, none⟩ = some cv := by rw [cell_of_row w3 q 3 _ _ (0, 0) X3.out]; rfl
  have g3 : w3.frozen? ⟨q, 3, none⟩ = false := frozen_of_row w3 q 3 _ _ X3.out
  obtain ⟨W4, hW4⟩ : ∃ W4, w3.setCell ⟨q, 3, none⟩ (.slice ua um uc) = W4 := ⟨_, rfl⟩
  have HF : Hid (RqTo Y w W4 q r (s.forget n)) := by
    have t4 : Tch (fun k => k = q) w3 W4 := by rw [← hW4]; exact tch_set w3 q 3 _
    have nq : ∀ k, w.heap.size ≤ k → ¬ k = q := fun k h1 h2 => by have := H.out.lt; omega
    refine H.out.turn (s' := s.forget n) (V' := V) (dv' := .slice va vm vc) (cv' := .slice ua um uc) (TW3.out.trans t4 (fun _ _ e => e)) ?_ (D3.out.tch t4 (fun k hk => nq k (N1.out k hk))).rd (O3.out.tch t4 (fun k hk => nq k (N3.out k hk))).rd (fun k hk _ => .inr (N1.out k hk)) (fun k hk _ => .inr (N3.out k hk)) (fun m hm => .inl ⟨hm.imp (fun e => (kwo_mem.1 e).1) (fun e => (kwo_mem.1 e).1), rfl, rfl⟩) (Nat.le_trans (kwo_len _ _) H.out.rm1) rfl (Nat.le_trans (kwo_len _ _) H.out.dl)
    rw [← hW4, heap_setCell_same w3 q 3 _ _ _ X3.out]; rfl
  clear o3 b3 n3 HW2 X3 O3 TW3 D3 e3 d2 f2 hW2
  go_wp2_with fail
  go_end0
  exact ⟨rfl, HF.out⟩
end Go.Proofs.Ytgpaklifjonlkaa
/-
  The document's asked.
-/
namespace Go.Proofs.Ytgpaklifjonlkaa
open Go.RowKit
set_option linter.unusedVariables false
set_option linter.unusedSimpArgs false
set_option maxRecDepth 100000

/-- It is clean, and the most recently asked; whatever is dirty. -/
def CS.ask (s : CS) (n : Nat) (x : Int × List Int) : CS := { s with B := bput s.B n x, c := kask s.rm s.c n }
theorem ask_keep {s : CS} {n : Nat} (h : n ∉ s.d) (x : Int × List Int) : s.ask n x = s.keep n x := by
  unfold CS.ask CS.keep
  rw [kwo_not (fun a ha e => h (by
    have ea : a = n := by omega
    rw [← ea]
    exact ha))]
/-- A block with its number, as a value. -/
def hdv (n : Nat) (k : Int) (v : Value) : Value := .agg #[.int .i64 (n : Int), .int .i64 k, v]

set_option maxHeartbeats 1000000 in
theorem ask_any {Y : Nat → Prop} {q r : Nat} {s : CS} {dv cv : Value} {V : Nat → Value} (n : Nat) (k : Int) (v : Value) (ys : List Int) (w : World) (h : RqAt Y w q r s dv cv V) (hr : Rd .u8 w v ys) (hn : n < 4096)
    (hv : ∀ j, v.ownBlock = some j → ys ≠ [] → Y j ∧ j ≠ q) (hx : n ∉ s.d ∨ (s.B n = (k, ys) ∧ V n = v)) :
    Calls Try.prog 54 #[cp q, hdv n k v] w fun e w' => e = .returned (.tuple #[]) ∧ RqTo Y w w' q r (s.ask n (k, ys)) ∧ Rd .u8 w' v ys := by
  have H : Hid (RqAt Y w q r s dv cv V) := h
  have HV : Hid (∀ j, v.ownBlock = some j → ys ≠ [] → Y j ∧ j ≠ q) := hv
  have HX : Hid (n ∉ s.d ∨ (s.B n = (k, ys) ∧ V n = v)) := hx
  have HRd : Hid (Rd .u8 w v ys) := hr
  obtain ⟨a, m, cap, rfl⟩ : ∃ a m cap, v = .slice a m cap := by obtain ⟨a, c, e, _⟩ := hr; exact ⟨_, _, _, e⟩
  obtain ⟨W1, hW1⟩ : ∃ W1, w.alloc (.cells #[.int .i64 (n : Int), .int .i64 k, .slice a m cap] 85) = W1 := ⟨_, rfl⟩
  have B1 : Hid (Below w.heap.size w W1) := by rw [← hW1]; exact (Below.refl _ _).alloc (Nat.le_refl _) _
  have X1 : Hid (W1.heap[w.heap.size]? = some (.cells #[.int .i64 (n : Int), .int .i64 k, .slice a m cap] 85 (0, 0))) := by rw [← hW1]; exact heap_alloc_new w _
  have H1 : Hid (RqAt Y W1 q r s dv cv V) := h.below B1.out
  have HSV : Hid (∀ x, x ∈ s.c.map (hdk s.B V) → Slv x.v) := fun x hx => by
    obtain ⟨m, hm, rfl⟩ := List.mem_map.1 hx
    exact h.slv (.inr hm)
  have HWO := hideP (without_anyK cv (s.c.map (hdk s.B V)) (n : Int) W1.drew (H1.out.cr.below (Below.refl _ _).drew) HSV.out (by rw [List.length_map]; have := h.rm1; have := h.rm2; omega))
  rw [hwo_map] at HWO
  have c3 := H1.out.c3
  have x0 : W1.cell? ⟨w.heap.size, 0, none⟩ = some (.int .i64 (n : Int)) := by rw [cell_of_row W1 w.heap.size 0 _ _ (0, 0) X1.out]; rfl
  have hS : W1.drew.cell? ⟨q, 3, none⟩ = some cv ∧ W1.drew.cell? ⟨w.heap.size, 0, none⟩ = some (.int .i64 (n : Int)) := ⟨c3, x0⟩
  have HST : Hid (∀ W2, Below W1.drew.heap.size W1.drew W2 → (W2.cell? ⟨q, 3, none⟩ = some cv ∧ W2.cell? ⟨w.heap.size, 0, none⟩ = some (.int .i64 (n : Int))) ∧ Hid (RqAt Y W2 q r s dv cv V) ∧ Hid (W2.heap[w.heap.size]? = some (.cells #[.int .i64 (n : Int), .int .i64 k, .slice a m cap] 85 (0, 0))) ∧ Hid (Below w.heap.size w W2)) := fun W2 hb => by
    have hb' : Below W1.heap.size W1 W2 := (Below.refl _ _).drew.trans hb
    have h2 := H1.out.below hb'
    have hx2 : W2.heap[w.heap.size]? = some (.cells #[.int .i64 (n : Int), .int .i64 k, .slice a m cap] 85 (0, 0)) := by rw [hb'.block _ (Array.getElem?_eq_some_iff.1 X1.out).1]; exact X1.out
    exact ⟨⟨h2.c3, by rw [cell_of_row W2 w.heap.size 0 _ _ (0, 0) hx2]; rfl⟩, h2, hx2, B1.out.trans (hb'.mono B1.out.size)⟩
  obtain ⟨ca, cm, cc, hcv⟩ : ∃ a m cap, cv = .slice a m cap := by obtain ⟨a, c, e, _⟩ := h.cr; exact ⟨_, _, _, e⟩
  subst hcv
  clear h hr hv hx
  unfold hdv
  go_enter Try.func54, Try.ntmps54
  go_wp2_with fail
  go_region_held3 (fun w' => w'.cell? ⟨q, 3, none⟩ = some (.slice ca cm cc) ∧ w'.cell? ⟨w.heap.size, 0, none⟩ = some (.int .i64 (n : Int))) (first | go_keep | exact hS2)
    (first
      | (go_at_call 56; refine HWO.out.mono ?_; rintro e W2 ⟨v2, rfl, o2, b2, n2⟩; obtain ⟨hS2, H2, X2, B2⟩ := HST.out W2 b2; have O2 := hideP o2; have N2 := hideP n2; clear o2 b2 n2))
  clear HST HWO hS hS2 hW1
  rename_i hHeld
  clear hHeld
  have N2' : Hid (∀ j, v2.ownBlock = some j → w.heap.size < j) := fun j hj => by
    have h1 : W1.heap.size ≤ j := N2.out j hj
    have h2 := (Array.getElem?_eq_some_iff.1 X1.out).1
    omega
  have x0' : W2.cell? ⟨w.heap.size, 0, none⟩ = some (.int .i64 (n : Int)) := by rw [cell_of_row W2 w.heap.size 0 _ _ (0, 0) X2.out]; rfl
  have x1' : W2.cell? ⟨w.heap.size, 1, none⟩ = some (.int .i64 k) := by rw [cell_of_row W2 w.heap.size 1 _ _ (0, 0) X2.out]; rfl
  have x2' : W2.cell? ⟨w.heap.size, 2, none⟩ = some (.slice a m cap) := by rw [cell_of_row W2 w.heap.size 2 _ _ (0, 0) X2.out]; rfl
  have HLL : Hid (((kwo s.c n).map (hdk s.B V)).length ≤ 100000) := by
    show _ ≤ _
    rw [List.length_map]
    have h1 := kwo_len s.c n
    have h2 := H.out.rm1
    have h3 := H.out.rm2
    omega
  clear c3 x0 N2
  go_wp2_with (at_builtin; refine wpList_pushH _ rfl (.tmp 12) (.tmp 14) rfl v2 ((kwo s.c n).map (hdk s.B V)) rfl O2.out ⟨n, k, .slice a m cap⟩ ⟨_, _, _, rfl⟩ rfl HLL.out ?_)
  intro v3 w3 o3 g3
  have t23 : Tch (fun j => v2.ownBlock = some j) W2 w3 := g3.tch
  have H3 : Hid (RqAt Y w3 q r s dv (.slice ca cm cc) V) := H2.out.tch t23 (fun j hj e => by have := N2'.out j e; have := H.out.ylt j hj; omega)
  have B3 : Hid (Below w.heap.size w w3) := B2.out.trans (t23.below B2.out.size (fun j e => Nat.le_of_lt (N2'.out j e)))
  have N3 : Hid (∀ j, v3.ownBlock = some j → w.heap.size ≤ j) := fun j hj => by
    rcases g3.fresh j hj with e | e
    · exact Nat.le_of_lt (N2'.out j e)
    · have := B2.out.size; omega
  obtain ⟨ps, hps⟩ : ∃ ps, (kwo s.c n).map (hdk s.B V) ++ [⟨n, k, .slice a m cap⟩] = ps := ⟨_, rfl⟩
  rw [hps] at o3
  have O3 : Hid (RdH w3 v3 ps) := o3.rd
  have HPS : Hid ((kwo s.c n ++ [n]).map (hdk (bput s.B n (k, ys)) (vputK V n (.slice a m cap))) = ps) := by
    show _ = _
    rw [← hps, List.map_append]
    refine congr (congrArg _ (List.map_congr_left fun j hj => ?_)) ?_
    · have hne : j ≠ n := fun e => (kwo_mem.1 hj).2 (by omega)
      simp [hdk, bput, vputK, hne]
    · simp [hdk, bput, vputK]
  have HPL : Hid (ps.length = (kwo s.c n).length + 1) := by show _ = _; rw [← hps]; simp
  have HDD : Hid (s.d.map (hdk (bput s.B n (k, ys)) (vputK V n (.slice a m cap))) = s.d.map (hdk s.B V)) := List.map_congr_left fun j hj => by
    by_cases e : j = n
    · subst e
      rcases HX.out with h1 | ⟨h1, h2⟩
      · exact absurd hj h1
      · simp [hdk, bput, vputK, h1, h2]
    · simp [hdk, bput, vputK, e]
  obtain ⟨va, vc, hv3, hvl, hvc⟩ := o3.rd.len
  obtain ⟨L, hL⟩ : ∃ L, ps.length = L := ⟨_, rfl⟩
  rw [hL] at hv3 hvl
  have HL : Hid (ps.length = L) := hL
  have hL0 : 0 < L := by have := HPL.out; omega
  subst hv3
  have y1 := H3.out.c1
  have y3 := H3.out.c3
  have f3 := H3.out.fz 3
  have hr2 : (s.rm : Int) ≤ 1024 := by have := H.out.rm2; omega
  have hL5 : L ≤ 5000 := by have := HPL.out; have := HLL.out; rw [List.length_map] at this; have h1 := kwo_len s.c n; have h2 := H.out.rm1; have h3 := H.out.rm2; omega
  have HFIN : Hid (∀ u cs, RdH w3 u cs → cs = (kask s.rm s.c n).map (hdk (bput s.B n (k, ys)) (vputK V n (.slice a m cap))) → (∀ j, u.ownBlock = some j → w.heap.size ≤ j) → RqTo Y w (w3.setCell ⟨q, 3, none⟩ u) q r (s.ask n (k, ys)) ∧ Rd .u8 (w3.setCell ⟨q, 3, none⟩ u) (.slice a m cap) ys) := fun u cs hu hcs hun => by
    have t4 : Tch (fun j => j = q) w3 (w3.setCell ⟨q, 3, none⟩ u) := tch_set w3 q 3 u
    have TT : Tch (fun j => j = q) w (w3.setCell ⟨q, 3, none⟩ u) := (Tch.of_below B3.out).trans t4 (fun _ _ e => e)
    have RR : Rd .u8 (w3.setCell ⟨q, 3, none⟩ u) (.slice a m cap) ys := HRd.out.tch0 TT (fun j hj h0 e => (HV.out j hj h0).2 e)
    refine ⟨?_, RR⟩
    refine H.out.turn (s' := s.ask n (k, ys)) (V' := vputK V n (.slice a m cap)) (dv' := dv) (cv' := u) TT ?_ ?_ ?_ (fun j hj h0 => .inl ⟨hj, h0⟩) (fun j hj _ => .inr (hun j hj)) (fun j hj => ?_) (kask_len H.out.rm1) rfl H.out.dl
    · rw [heap_setCell_same w3 q 3 _ _ _ H3.out.box]; rfl
    · show RdH _ dv (s.d.map (hdk (bput s.B n (k, ys)) (vputK V n (.slice a m cap))))
      rw [HDD.out]
      exact H.out.dr.tch TT (fun j hj h0 e => (H.out.dq j hj (fun e => h0 (by rw [e]; rfl))).2 e)
    · show RdH _ u ((kask s.rm s.c n).map (hdk (bput s.B n (k, ys)) (vputK V n (.slice a m cap))))
      rw [← hcs]
      exact hu.tch t4 (fun j hj _ e => by have := hun j hj; have := H.out.lt; omega)
    · by_cases e : j = n
      · subst e
        refine .inr ⟨?_, fun i hi h0 => ?_⟩
        · show Rd .u8 _ (vputK V j (.slice a m cap) j) (bput s.B j (k, ys) j).2
          rw [bput_same]
          simp only [vputK, if_true]
          exact RR
        · have hi' : (Value.slice a m cap).ownBlock = some i := by simpa [vputK] using hi
          have h0' : ys ≠ [] := by
            have : (bput s.B j (k, ys) j).2 ≠ [] := h0
            rw [bput_same] at this
            exact this
          exact ⟨.inl (HV.out i hi' h0').1, (HV.out i hi' h0').2⟩
      · refine .inl ⟨?_, by simp [vputK, e], bput_else _ _ e⟩
        rcases hj with hj | hj
        · exact .inl hj
        · rcases kask_mem hj with e2 | e2
          · exact absurd e2 e
          · exact .inr e2.1
  clear o3 g3 t23 O2 N2' x0' x1' x2' HLL hps hL H2 X2 B2 X1 H1
  by_cases hov : s.rm < L
  · have hov2 : (L : Int) > (s.rm : Int) := by omega
    have HCS : Hid (ps.drop 1 = (kask s.rm s.c n).map (hdk (bput s.B n (k, ys)) (vputK V n (.slice a m cap)))) := by
      show _ = _
      rw [← HPS.out, ← List.map_drop]
      unfold kask
      rw [if_pos (by have := HPL.out; have := HL.out; omega)]
      rw [List.drop_one]
    have HL1 : Hid (1 ≤ ps.length) := by have := HL.out; show _ ≤ _; omega
    go_wp2_with (with_reducible (show wpList _ _ _ (Oper.mk _ (Op.slice _ _ _ _ _) _ _ _ _ :: _) _ _); refine wpList_fromH _ w3 rfl (.tmp 23) (.const (.int .i64 1)) rfl (.slice va L vc) ps rfl O3.out 1 rfl HL1.out ?_)
    intro u hu hub
    obtain ⟨ua, um, uc, rfl⟩ : ∃ a m cap, u = .slice a m cap := by obtain ⟨a, c, e, _⟩ := hu; exact ⟨_, _, _, e⟩
    have HR := hideP (HFIN.out _ _ hu (by rw [← List.drop_one]; exact HCS.out) (fun j hj => N3.out j (hub j hj)))
    clear hu hub HFIN
    go_wp2_with fail
    go_end0
    exact ⟨rfl, HR.out⟩
  · have hov2 : decide (s.rm < L) = false := by rw [decide_eq_false_iff_not]; exact hov
    have HCS : Hid (ps = (kask s.rm s.c n).map (hdk (bput s.B n (k, ys)) (vputK V n (.slice a m cap)))) := by
      show _ = _
      rw [← HPS.out]
      unfold kask
      rw [if_neg (by have := HPL.out; have := HL.out; omega)]
    have HR := hideP (HFIN.out _ _ O3.out HCS.out N3.out)
    clear HFIN
    go_wp2_with fail
    go_end0
    exact ⟨rfl, HR.out⟩
end Go.Proofs.Ytgpaklifjonlkaa
