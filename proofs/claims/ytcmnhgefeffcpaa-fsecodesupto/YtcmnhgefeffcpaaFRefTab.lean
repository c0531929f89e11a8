/-
  The document's table of places.
-/
import Derived.Test.YtcmnhgefeffcpaaFSpr
namespace Go.Proofs.Ytcmnhgefeffcpaa
open Go.RowKit Pl
set_option linter.unusedVariables false

/-- A row of places at block g: two numbers each. -/
def Pv (w : World) (g n : Nat) (c : Nat → Int) : Prop := w.ownsRow 0 59 2 (.slice (some ⟨g, 0, none⟩) n n) n (ics (n * 2) c)

theorem Pv.at_ {w : World} {g n : Nat} {c : Nat → Int} (h : Pv w g n c) (i : Nat) (hi : i < n * 2) : w.cell? ⟨g, i, none⟩ = some (.int .i64 (c i)) := by
  rw [World.ownsRow.cellAt (xs := ics (n * 2) c) h i hi, ics_get _ _ _ hi]
theorem Pv.fz {w : World} {g n : Nat} {c : Nat → Int} (h : Pv w g n c) (i : Nat) : w.frozen? ⟨g, i, none⟩ = false := World.ownsRow.frozenAt (xs := ics (n * 2) c) h i
theorem Pv.set {w : World} {g n : Nat} {c : Nat → Int} (h : Pv w g n c) (i : Nat) (hi : i < n * 2) (v : Int) : Pv (w.setCell ⟨g, i, none⟩ (.int .i64 v)) g n (upd c i v) := by
  have := (World.ownsRow.stored (xs := ics (n * 2) c) h i (.int .i64 v)).1
  rw [ics_set _ _ _ _ hi] at this
  exact this
theorem Pv.congr {w : World} {g n : Nat} {c d : Nat → Int} (h : Pv w g n c) (e : ∀ i, i < n * 2 → c i = d i) : Pv w g n d := by
  unfold Pv; rw [← ics_congr e]; exact h
theorem Pv.below {w w' : World} {g n : Nat} {c : Nat → Int} (h : Pv w g n c) (hb : Below w.heap.size w w') : Pv w' g n c :=
  Tch.owns (S := fun _ => False) (Tch.of_below hb) h (fun _ _ e => e)
theorem Pv.lt {w : World} {g n : Nat} {c : Nat → Int} (h : Pv w g n c) : g < w.heap.size := (World.ownsRow.lt h g rfl).2

/-- The cells while j symbols are laid; while p places have their x; the whole. -/
def tq (f : Nat → Nat) (L z j i : Nat) : Int := if i % 2 = 0 then (tj f L z j (i / 2) : Int) else 0
def tx (f : Nat → Nat) (L z p i : Nat) : Int := if i % 2 = 0 then (tb f L z (i / 2) : Int) else if i / 2 < p then (xs_ f L z (i / 2) : Int) else 0
def tf (f : Nat → Nat) (L z i : Nat) : Int := if i % 2 = 0 then (tb f L z (i / 2) : Int) else (xs_ f L z (i / 2) : Int)

theorem tq_step {z : Nat} (hz : Zok z) (f : Nat → Nat) (L j k : Nat) (hj : j < z) (hk : k < L) (h1 : cu f k ≤ j) (h2 : j < cu f (k + 1)) (i : Nat) (hi : i < z * 2) :
    upd (tq f L z j) ((j * stp z) % z * 2) (k : Int) i = tq f L z (j + 1) i := by
  unfold upd tq
  have hm : (j * stp z) % z < z := Nat.mod_lt _ (by omega)
  by_cases e : i = (j * stp z) % z * 2
  · rw [if_pos e, if_pos (by omega), tj_step hz f L j (i / 2) k hj (by omega) hk h1 h2, if_pos (by omega)]
  · rw [if_neg e]
    by_cases c : i % 2 = 0
    · rw [if_pos c, if_pos c, tj_step hz f L j (i / 2) k hj (by omega) hk h1 h2, if_neg (by omega)]
    · rw [if_neg c, if_neg c]

theorem tx_step (f : Nat → Nat) (L z p i : Nat) : upd (tx f L z p) (p * 2 + 1) (xs_ f L z p : Int) i = tx f L z (p + 1) i := by
  unfold upd tx
  by_cases e : i = p * 2 + 1
  · rw [if_pos e, if_neg (by omega), if_pos (by omega), show i / 2 = p by omega]
  · rw [if_neg e]
    by_cases c : i % 2 = 0
    · rw [if_pos c, if_pos c]
    · rw [if_neg c, if_neg c]
      by_cases d : i / 2 < p
      · rw [if_pos d, if_pos (by omega)]
      · rw [if_neg d, if_neg (by omega)]

theorem infoPl : (Try.prog.info? 59).map (fun i => (i.zero, i.size, i.bytes)) = some (some (.agg #[.int .i64 0, .int .i64 0]), 2, 16) := by kernel_rfl

theorem made2 (n : Nat) : (madeCells #[Value.int .i64 0, Value.int .i64 0] (n * 2)).toList = ics (n * 2) (fun _ => 0) := by
  have h : ∀ i : Nat, (#[Value.int .i64 0, Value.int .i64 0] : Array Value)[i % 2]! = .int .i64 0 := fun i => by
    rcases (by omega : i % 2 = 0 ∨ i % 2 = 1) with e | e <;> rw [e] <;> rfl
  unfold madeCells ics
  apply List.ext_getElem?
  intro i
  by_cases hi : i < n * 2
  · simp [hi, h]
  · simp [hi]

set_option maxRecDepth 100000 in
set_option maxHeartbeats 4000000 in
theorem refTable_any (v : Value) (s : List Int) (lg z : Nat) (w : World) (hr : Rd .i64 w v s) (hk : Sok s lg) (hz : 2 ^ lg = z) :
    Calls Try.prog 30 #[v, .int .i64 lg] w fun e w' => ∃ g, e = .returned (.slice (some ⟨g, 0, none⟩) z z) ∧ Pv w' g z (tf (nn s) s.length z) ∧ Below w.heap.size w w' ∧ w.heap.size ≤ g := by
  obtain ⟨a, cap, rfl, hlc, hcm, _, hcc⟩ := hr
  have HC : Hid (s = [] ∨ ∃ b o, a = some ⟨b, o, none⟩ ∧ ∀ i, i < s.length → w.cell? ⟨b, o + i, none⟩ = some (.int .i64 (s.getD i 0))) := hcc
  have HK : Hid (Sok s lg) := hk
  have HZ : Hid (2 ^ lg = z) := hz
  have HZK : Hid (Zok z) := by show Zok z; rw [← hz]; exact hk.fok.zok
  have HFOK : Hid (Fok (nn s) s.length z) := by show Fok _ _ _; rw [← hz]; exact hk.fok
  have hz1 := HZK.out.pos
  have hlen := hk.len
  have HS : Hid (cu (nn s) s.length = z) := by show _ = _; rw [hk.fok.sum, hz]
  have hlg : lg ≤ 9 := hk.hi
  have hw : wrap64 (2 ^ lg) = (z : Int) := by
    obtain ⟨z', hz', _, _, h1, _⟩ := pow_z (lg := lg) hk.lo hk.hi
    rw [h1]
    have := hz'.out
    omega
  obtain ⟨st, hst⟩ : ∃ st, Hid (stp z = st) := ⟨_, rfl⟩
  have hst1 : (z : Int) / 2 + (z : Int) / 8 + 3 = (st : Int) := by rw [← hst.out]; unfold stp; omega
  have HST1 : Hid ((z : Int) / 2 + (z : Int) / 8 + 3 = (st : Int)) := hst1
  have hst2 : 0 < st ∧ st ≤ 400 := by rw [← hst.out]; unfold stp; omega
  obtain ⟨j0, hj, hy0, hy1, hy2⟩ := info_parts infoPl
  clear hcc hk hz hst1
  go_enter Try.func30, Try.ntmps30
  go_wp2_with (at_make; refine wpList_make_full _ rfl (.tmp 15) (.tmp 15) 56 rfl 0 59 j0 _ 2 Try.underlying56 hj hy0 hy1 .i64 .i64 _ _ z rfl rfl (by first | rfl | exact hw) (by first | rfl | exact hw) (by rw [hy2]; omega) (by unfold maxLen; omega) (Nat.zero_le _) ?_)
  intro w1 ho1 hg1
  rw [made2] at ho1
  try rw [hw]
  obtain ⟨g, hg⟩ : ∃ g, Hid (w.heap.size = g) := ⟨_, rfl⟩
  rw [hg.out] at ho1
  have C0 : Hid (Pv w1 g z (tq (nn s) s.length z 0)) := Pv.congr (c := fun _ => 0) ho1 (fun i _ => by unfold tq; rw [tj_start]; split <;> rfl)
  have B1 : Hid (Below w.heap.size w w1) := (Below.refl _ _).grown hg1 (Nat.le_refl _) (fun k e => by cases e)
  have hgw : w.heap.size ≤ g := by rw [hg.out]; exact Nat.le_refl _
  rw [hg.out]
  clear ho1 hg1 hj hy0 hy1 hy2
  go_wp2_with fail
  go_loopw [7, 8] (fun x i wr => ∃ (k A : Nat), k ≤ s.length ∧ i = .int .i64 k ∧ x = .int .i64 A ∧ A < z ∧ Hid (A = (cu (nn s) k * st) % z) ∧ Hid (Pv wr g z (tq (nn s) s.length z (cu (nn s) k))) ∧ Hid (Below w.heap.size w wr)) (fun _ i _ => s.length - (intOf i).toNat)
  case atStart => exact ⟨0, 0, Nat.zero_le _, rfl, rfl, by omega, by show _ = _; simp [cu], C0, B1⟩
  case round =>
    clear C0 B1
    obtain ⟨k, A, hk, rfl, rfl, hA, HA, CV, T⟩ := hrel
    by_cases hlt : k < s.length
    · obtain ⟨ab, ao, ha, hc⟩ : ∃ b o, a = some ⟨b, o, none⟩ ∧ ∀ i, i < s.length → w.cell? ⟨b, o + i, none⟩ = some (.int .i64 (s.getD i 0)) := by
        rcases HC.out with rfl | h
        · simp at hlt
        · exact h
      subst ha
      obtain ⟨m, hm⟩ : ∃ m, Hid (nn s k = m) := ⟨_, rfl⟩
      have C0 : Hid (w.cell? ⟨ab, ao + k, none⟩ = some (.int .i64 (m : Int))) := by show _ = _; rw [hc k hlt, (HK.out.le k).1, hm.out]
      have hm1 : m ≤ 512 := by have h1 := (HK.out.le k).2; have h2 := HK.out.z; rw [hm.out] at h1; omega
      have HM : Hid (cu (nn s) (k + 1) = cu (nn s) k + m) := by show _ = _; simp only [cu]; rw [hm.out]
      have HLE : Hid (cu (nn s) k + m ≤ z) := by show _ ≤ _; rw [← HM.out, ← HS.out]; exact cu_mono _ hlt
      clear hc
      go_wp2_with fail
      go_loopw [7, 9] (fun x i wr => ∃ (j A : Nat), j ≤ m ∧ i = .int .i64 j ∧ x = .int .i64 A ∧ A < z ∧ Hid (A = ((cu (nn s) k + j) * st) % z) ∧ Hid (Pv wr g z (tq (nn s) s.length z (cu (nn s) k + j))) ∧ Hid (Below w.heap.size w wr)) (fun _ i _ => m - (intOf i).toNat)
      case atStart => exact ⟨0, A, Nat.zero_le _, rfl, rfl, hA, HA, CV, T⟩
      case round =>
        clear HA CV T hA
        obtain ⟨j, A, hj, rfl, rfl, hA, HA, CV, T⟩ := hrel
        have cx : wr.cell? ⟨ab, ao + k, none⟩ = some (.int .i64 (m : Int)) := by rw [T.out.cell (p := ⟨ab, ao + k, none⟩) (World.block_lt_of_cell? w _ C0.out)]; exact C0.out
        by_cases hjl : j < m
        · have c0 := CV.out.at_ (A * 2) (by omega)
          have f0 := CV.out.fz (A * 2)
          obtain ⟨y0, hy0⟩ : ∃ y0, tq (nn s) s.length z (cu (nn s) k + j) (A * 2) = y0 := ⟨_, rfl⟩
          rw [hy0] at c0
          have CV2 : Hid (Pv (wr.setCell ⟨g, A * 2, none⟩ (.int .i64 (k : Int))) g z (tq (nn s) s.length z (cu (nn s) k + (j + 1)))) := by
            refine (CV.out.set (A * 2) (by omega) (k : Int)).congr (fun i hi => ?_)
            have := tq_step HZK.out (nn s) s.length (cu (nn s) k + j) k (by have := HLE.out; omega) hlt (by omega) (by rw [HM.out]; omega) i hi
            rw [hst.out, ← HA.out] at this
            exact this
          have T2 : Hid (Below w.heap.size w (wr.setCell ⟨g, A * 2, none⟩ (.int .i64 (k : Int)))) := T.out.trans ((Tch.setCell (Tch.refl (fun k => k = g) wr) (p := ⟨g, A * 2, none⟩) (fun _ => rfl) _).below T.out.size (fun j e => by rw [e]; exact hgw))
          obtain ⟨B, hB⟩ : ∃ B, Hid ((A + st) % z = B) := ⟨_, rfl⟩
          have hB1 : B < z := by rw [← hB.out]; exact Nat.mod_lt _ (by omega)
          have HB : Hid (B = ((cu (nn s) k + (j + 1)) * st) % z) := by show _ = _; rw [← hB.out, HA.out, at_step]; rfl
          have hBI : ((A : Int) + (z : Int) / 2 + (z : Int) / 8 + 3) % (z : Int) = (B : Int) := by
            rw [← hB.out]
            have e : (A : Int) + (z : Int) / 2 + (z : Int) / 8 + 3 = ((A + st : Nat) : Int) := by have := HST1.out; push_cast; omega
            rw [e]
            push_cast
            rfl
          have hi0 : (0 : Int) ≤ (A : Int) := by omega
          have hi1 : (A : Int) < (z : Int) := by omega
          clear HA CV T hy0
          go_wp2_with fail
          go_roundw
          case rel => exact ⟨j + 1, B, by omega, by go_num, by first | rfl | go_num, hB1, HB, CV2, T2⟩
          case measure => simp [intOf]; omega
        · obtain rfl : j = m := by omega
          rw [← HM.out] at HA CV
          go_wp2_with fail
          go_roundw
          case rel => exact ⟨k + 1, A, by omega, by go_num, rfl, hA, HA, CV, T⟩
          case measure => simp [intOf]; omega
    · obtain rfl : k = s.length := by omega
      rw [HS.out] at CV
      have CX : Hid (Pv wr g z (tx (nn s) s.length z 0)) := CV.out.congr (fun i hi => by unfold tq tx; split <;> rename_i e; (· rw [tj_end _ _ _ _ (by omega)]); (· rw [if_neg (by omega)]))
      clear CV HA
      go_wp2_with fail
      go_loopw [10] (fun i wr => ∃ p : Nat, p ≤ z ∧ i = .int .i64 p ∧ Hid (Pv wr g z (tx (nn s) s.length z p)) ∧ Hid (Below w.heap.size w wr)) (fun i _ => z - (intOf i).toNat)
      case atStart => exact ⟨0, Nat.zero_le _, rfl, CX, T⟩
      case round =>
        clear CX T
        obtain ⟨p, hp, rfl, CX, T⟩ := hrel
        by_cases hpz : p < z
        · obtain ⟨k, hkk⟩ : ∃ k, Hid (tb (nn s) s.length z p = k) := ⟨_, rfl⟩
          have hkl : k < s.length := by rw [← hkk.out]; exact HFOK.out.tb_lt p
          obtain ⟨ab, ao, ha, hc⟩ : ∃ b o, a = some ⟨b, o, none⟩ ∧ ∀ i, i < s.length → w.cell? ⟨b, o + i, none⟩ = some (.int .i64 (s.getD i 0)) := by
            rcases HC.out with h | h
            · rw [h] at hkl; simp at hkl
            · exact h
          subst ha
          obtain ⟨m, hm⟩ : ∃ m, Hid (nn s k = m) := ⟨_, rfl⟩
          have hm1 : m ≤ 512 := by have h1 := (HK.out.le k).2; have h2 := HK.out.z; rw [hm.out] at h1; omega
          have c0 : wr.cell? ⟨ab, ao + k, none⟩ = some (.int .i64 (m : Int)) := by
            have h0 := hc k hkl
            rw [T.out.cell (p := ⟨ab, ao + k, none⟩) (World.block_lt_of_cell? w _ h0), h0, (HK.out.le k).1, hm.out]
          have cp : wr.cell? ⟨g, p * 2, none⟩ = some (.int .i64 (k : Int)) := by
            rw [CX.out.at_ (p * 2) (by omega)]
            unfold tx
            rw [if_pos (by omega), show p * 2 / 2 = p by omega, hkk.out]
          have hkI : (k : Int) < (s.length : Int) := by omega
          have hpI : (p : Int) < (z : Int) := by omega
          clear hc
          go_wp2_with fail
          go_loopw [11, 12] (fun x i wr => ∃ q : Nat, q ≤ p ∧ i = .int .i64 q ∧ x = .int .i64 ((m : Int) + (ah (nn s) s.length z k q : Int)) ∧ Hid (Pv wr g z (tx (nn s) s.length z p)) ∧ Hid (Below w.heap.size w wr)) (fun _ i _ => p - (intOf i).toNat)
          case atStart => exact ⟨0, Nat.zero_le _, rfl, by simp [ah], CX, T⟩
          case round =>
            clear CX T c0 cp
            obtain ⟨q, hq, rfl, rfl, CX, T⟩ := hrel
            have hah : ah (nn s) s.length z k q ≤ 512 := by
              have := HFOK.out.ah_le (k := k) (p := q) hkl (by omega)
              rw [hm.out] at this
              omega
            obtain ⟨A, hA⟩ : ∃ A, Hid (ah (nn s) s.length z k q = A) := ⟨_, rfl⟩
            rw [hA.out] at hah ⊢
            by_cases hqp : q < p
            · obtain ⟨k2, hk2⟩ : ∃ k2, Hid (tb (nn s) s.length z q = k2) := ⟨_, rfl⟩
              have cq : wr.cell? ⟨g, q * 2, none⟩ = some (.int .i64 (k2 : Int)) := by
                rw [CX.out.at_ (q * 2) (by omega)]
                unfold tx
                rw [if_pos (by omega), show q * 2 / 2 = q by omega, hk2.out]
              have cp : wr.cell? ⟨g, p * 2, none⟩ = some (.int .i64 (k : Int)) := by
                rw [CX.out.at_ (p * 2) (by omega)]
                unfold tx
                rw [if_pos (by omega), show p * 2 / 2 = p by omega, hkk.out]
              have hqI : (q : Int) < (z : Int) := by omega
              by_cases he : k2 = k
              · have g1 : ((k2 : Int) == (k : Int)) = true := by rw [beq_iff_eq]; omega
                have HA2 : Hid (ah (nn s) s.length z k (q + 1) = A + 1) := by show _ = _; simp only [ah]; rw [hA.out, hk2.out, if_pos he]
                clear he
                go_wp2_with fail
                go_quiet (fail)
                go_wp2_with fail
                go_roundw
                case rel => exact ⟨q + 1, by omega, by go_num, by rw [HA2.out]; push_cast; first | rfl | go_num | (congr 1; omega), CX.out.below (Below.of_drewN _ _ _), T.out.trans (Below.of_drewN _ _ _)⟩
                case measure => simp [intOf]; omega
              · have g1 : ((k2 : Int) == (k : Int)) = false := by rw [beq_eq_false_iff_ne]; omega
                have HA2 : Hid (ah (nn s) s.length z k (q + 1) = A) := by show _ = _; simp only [ah]; rw [hA.out, hk2.out, if_neg he]; rfl
                clear he
                go_wp2_with fail
                go_quiet (fail)
                go_wp2_with fail
                go_roundw
                case rel => exact ⟨q + 1, by omega, by go_num, by rw [HA2.out], CX.out.below (Below.of_drewN _ _ _), T.out.trans (Below.of_drewN _ _ _)⟩
                case measure => simp [intOf]; omega
            · obtain rfl : q = p := by omega
              have HXS : Hid (((xs_ (nn s) s.length z q : Nat) : Int) = (m : Int) + (A : Int)) := by show _ = _; unfold xs_; rw [hkk.out, hm.out, hA.out]; push_cast; rfl
              have c1 := CX.out.at_ (q * 2 + 1) (by omega)
              have f1 := CX.out.fz (q * 2 + 1)
              obtain ⟨y0, hy0⟩ : ∃ y0, tx (nn s) s.length z q (q * 2 + 1) = y0 := ⟨_, rfl⟩
              rw [hy0] at c1
              have CX2 : Hid (Pv (wr.setCell ⟨g, q * 2 + 1, none⟩ (.int .i64 ((m : Int) + (A : Int)))) g z (tx (nn s) s.length z (q + 1))) := by
                have := (CX.out.set (q * 2 + 1) (by omega) ((m : Int) + (A : Int))).congr (d := tx (nn s) s.length z (q + 1)) (fun i _ => by rw [← HXS.out]; exact tx_step _ _ _ _ _)
                exact this
              have T2 : Hid (Below w.heap.size w (wr.setCell ⟨g, q * 2 + 1, none⟩ (.int .i64 ((m : Int) + (A : Int))))) := T.out.trans ((Tch.setCell (Tch.refl (fun k => k = g) wr) (p := ⟨g, q * 2 + 1, none⟩) (fun _ => rfl) _).below T.out.size (fun j e => by rw [e]; exact hgw))
              clear hy0 CX T
              go_wp2_with fail
              go_roundw
              case rel => exact ⟨q + 1, by omega, by go_num, CX2, T2⟩
              case measure => simp [intOf]; omega
        · obtain rfl : p = z := by omega
          have CF : Hid (Pv wr g p (tf (nn s) s.length p)) := CX.out.congr (fun i hi => by unfold tx tf; split; (· rfl); (· rw [if_pos (by omega)]))
          go_wp2_with fail
          go_ret
          exact ⟨g, rfl, CF.out, T.out, hgw⟩
end Go.Proofs.Ytcmnhgefeffcpaa
