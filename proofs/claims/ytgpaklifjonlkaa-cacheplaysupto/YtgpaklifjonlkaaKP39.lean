import Derived.Test.YtgpaklifjonlkaaKP38
import Derived.Test.YtgpaklifjonlkaaKP26
import Derived.Test.YtgpaklifjonlkaaKP20
import Derived.Test.YtgpaklifjonlkaaKP37
import Derived.Test.YtgpaklifjonlkaaKP33
import Derived.Test.YtgpaklifjonlkaaKP04
import Derived.Test.YtgpaklifjonlkaaKP32
import Derived.Test.YtgpaklifjonlkaaKP09
/-
  The document's cache and its disk; its Flush.
-/
namespace Go.Proofs.Ytgpaklifjonlkaa
open Go.RowKit
set_option linter.unusedVariables false
set_option linter.unusedSimpArgs false
set_option maxRecDepth 100000

/-- The document's cache and its disk. -/
structure Rz (Y R : Nat → Prop) (w : World) (q r : Nat) (s : CS) (E : DS) : Prop where
  rq : Rq Y w q r s
  rf : Rf R w r E
  len : E.L.length = 60
  ap : ∀ k, Y k → ¬ R k
def RzTo (Y R : Nat → Prop) (w w' : World) (q r : Nat) (s : CS) (E : DS) : Prop :=
  ∃ Y' R', Rz Y' R' w' q r s E ∧ Tch (fun k => Y k ∨ R k) w w' ∧ (∀ k, Y' k → Y k ∨ w.heap.size ≤ k) ∧ (∀ k, R' k → R k ∨ w.heap.size ≤ k)

section
variable {Y R : Nat → Prop} {w w' : World} {q r : Nat} {s s' : CS} {E E' : DS}
theorem Rz.yq (h : Rz Y R w q r s E) : Y q := by obtain ⟨_, _, _, h⟩ := h.rq; exact h.yq
theorem Rz.tch (h : Rz Y R w q r s E) {T : Nat → Prop} (ht : Tch T w w') (hY : ∀ k, Y k → ¬ T k) (hR : ∀ k, R k → ¬ T k) : Rz Y R w' q r s E := ⟨h.rq.tch ht hY, h.rf.tch ht hR, h.len, h.ap⟩
theorem Rz.below (h : Rz Y R w q r s E) (hb : Below w.heap.size w w') : Rz Y R w' q r s E := h.tch (T := fun _ => False) (Tch.of_below hb) (fun _ _ e => e) (fun _ _ e => e)
theorem Rz.to (h : Rz Y R w q r s E) : RzTo Y R w w q r s E := ⟨Y, R, h, Tch.refl _ _, fun _ e => .inl e, fun _ e => .inl e⟩
theorem Rz.rqTo (h : Rz Y R w q r s E) (hc : RqTo Y w w' q r s') : RzTo Y R w w' q r s' E := by
  obtain ⟨Y', h1, h2, h3⟩ := hc
  refine ⟨Y', R, ⟨h1, h.rf.tch h2 (fun k hk e => h.ap k (by rw [e]; exact h.yq) hk), h.len, fun k hk hs => ?_⟩, h2.mono (fun k _ e => .inl (by rw [e]; exact h.yq)), h3, fun k e => .inl e⟩
  rcases h3 k hk with e | e
  · exact h.ap k e hs
  · have := h.rf.rlt k hs; omega
theorem Rz.rfTo (h : Rz Y R w q r s E) (hd : RfTo R w w' r E') (hl : E'.L.length = 60) : RzTo Y R w w' q r s E' := by
  obtain ⟨R', h1, h2, h3⟩ := hd
  refine ⟨Y, R', ⟨h.rq.tch h2 (fun k hk e => h.ap k hk e), h1, hl, fun k hk hs => ?_⟩, h2.mono (fun k _ e => .inr e), fun k e => .inl e, h3⟩
  rcases h3 k hs with e | e
  · exact h.ap k hk e
  · have := h.rq.lt k hk; omega
theorem RzTo.after {Y0 R0 : Nat → Prop} {w0 : World} (ht : Tch (fun k => Y0 k ∨ R0 k) w0 w) (hx : ∀ k, Y k → Y0 k ∨ w0.heap.size ≤ k) (hs : ∀ k, R k → R0 k ∨ w0.heap.size ≤ k) (h : RzTo Y R w w' q r s E) : RzTo Y0 R0 w0 w' q r s E := by
  obtain ⟨X', S', h1, h2, h3, h4⟩ := h
  refine ⟨X', S', h1, ht.trans h2 (fun k hk e => ?_), fun k hk => ?_, fun k hk => ?_⟩
  · rcases e with e | e
    · rcases hx k e with e | e
      · exact .inl e
      · omega
    · rcases hs k e with e | e
      · exact .inr e
      · omega
  · rcases h3 k hk with e | e
    · exact hx k e
    · exact .inr (Nat.le_trans ht.size e)
  · rcases h4 k hk with e | e
    · exact hs k e
    · exact .inr (Nat.le_trans ht.size e)
end

/-- These are asked, one by one. -/
def asks (rm : Nat) (c : List Nat) : List Nat → List Nat
  | [] => c
  | n :: r => asks rm (kask rm c n) r
theorem asks_app (rm : Nat) (c l : List Nat) (n : Nat) : asks rm c (l ++ [n]) = kask rm (asks rm c l) n := by
  induction l generalizing c with
  | nil => rfl
  | cons a r ih => exact ih _
theorem flS_c (s : CS) (l : List Nat) : (flS s l).c = asks s.rm s.c l := by
  induction l generalizing s with
  | nil => rfl
  | cons a r ih => exact ih _
theorem flS_rm (s : CS) (l : List Nat) : (flS s l).rm = s.rm := by
  induction l generalizing s with
  | nil => rfl
  | cons a r ih => exact ih _
theorem flush_dR {s : CS} : s.flush.d = [] := by
  rw [List.eq_nil_iff_forall_not_mem]
  intro m hm
  have := (flS_d s s.d).1 hm
  exact this.2 this.1
def CS.at_ (s : CS) (i : Nat) : CS := { s with c := asks s.rm s.c (s.d.take i) }
theorem at_zero (s : CS) : s.at_ 0 = s := rfl
theorem at_next {s : CS} {i n : Nat} (h : s.d.take (i + 1) = s.d.take i ++ [n]) : s.at_ (i + 1) = (s.at_ i).ask n (s.B n) := by
  unfold CS.at_ CS.ask
  simp only
  rw [h, asks_app, bput_self]
theorem at_end {s : CS} : ({ s.at_ s.d.length with d := [] } : CS) = s.flush := by
  have h1 := flS_c s s.d
  have h2 := flS_rm s s.d
  have h3 := flS_B s s.d
  have h4 := flush_dR (s := s)
  unfold CS.flush at *
  unfold CS.at_
  rw [List.take_length]
  cases h : flS s s.d with
  | mk rm B d c =>
    rw [h] at h1 h2 h3 h4
    simp only at h1 h2 h3 h4
    simp only
    rw [h1, h2, h3, h4]

theorem infH4 : (Try.prog.info? 85).map (·.size) = some 3 := by kernel_rfl
theorem loadH {w : World} {g : Nat} {n k : Int} {v : Value} (h : w.heap[g]? = some (.cells #[.int .i64 n, .int .i64 k, v] 85 (0, 0))) : w.cell? ⟨g, 0, none⟩ = some (.int .i64 n) ∧ w.cell? ⟨g, 1, none⟩ = some (.int .i64 k) ∧ w.cell? ⟨g, 2, none⟩ = some v :=
  ⟨by rw [cell_of_row w g 0 _ _ (0, 0) h]; rfl, by rw [cell_of_row w g 1 _ _ (0, 0) h]; rfl, by rw [cell_of_row w g 2 _ _ (0, 0) h]; rfl⟩

set_option maxHeartbeats 1000000 in
theorem rflush_any {Y R : Nat → Prop} {q r : Nat} {s : CS} {E : DS} (w : World) (hZ : Rz Y R w q r s E) (ho : COk 60 s) (hV : ∀ i, (E.V i).length + 4096 < 274877906943) :
    Calls Try.prog 29 #[cp q] w fun e w' => e = .returned (.tuple #[]) ∧ RzTo Y R w w' q r s.flush (s.flushD E) := by
  have HZ : Hid (Rz Y R w q r s E) := hZ
  have HV : Hid (∀ i, (E.V i).length + 4096 < 274877906943) := hV
  have HOK : Hid (COk 60 s) := ho
  obtain ⟨t, ht⟩ : ∃ t, s.d.length = t := ⟨_, rfl⟩
  have HT : Hid (s.d.length = t) := ht
  have htb : t ≤ 60 := by rw [← ht]; exact ho.dle
  clear hZ hV ho ht
  go_enter Try.func29, Try.ntmps29
  go_wp2_with fail
  go_loopw [2] (fun kv wr => ∃ (k : Nat), k ≤ t ∧ kv = .int .i64 k ∧ Hid (RzTo Y R w wr q r (s.at_ k) (flD E s.B (s.d.take k)))) (fun kv _ => t - (intOf kv).toNat)
  case atStart => exact ⟨0, Nat.zero_le _, rfl, by rw [List.take_zero]; exact HZ.out.to⟩
  case round =>
    obtain ⟨j, hj, rfl, ZK⟩ := hrel
    obtain ⟨Yj, Rj, hZj, hTj, hYj, hRj⟩ := ZK.out
    obtain ⟨dv, cv, V, h⟩ := hZj.rq
    have H : Hid (RqAt Yj wr q r (s.at_ j) dv cv V) := h
    have HTJ : Hid (Tch (fun k => Y k ∨ R k) w wr ∧ (∀ k, Yj k → Y k ∨ w.heap.size ≤ k) ∧ (∀ k, Rj k → R k ∨ w.heap.size ≤ k)) := ⟨hTj, hYj, hRj⟩
    have HZJ : Hid (Rz Yj Rj wr q r (s.at_ j) (flD E s.B (s.d.take j))) := hZj
    have c2 := h.c2
    have hdr := h.dr
    obtain ⟨da, dc, hdv, hdl, hdc⟩ := hdr.len
    have hdt : ((s.at_ j).d.map (hdk (s.at_ j).B V)).length = t := by rw [List.length_map]; exact HT.out
    rw [hdt] at hdv hdl
    subst hdv
    by_cases hjt : j < t
    · have hji : (j : Int) < (t : Int) := by omega
      have hjl : j < s.d.length := by rw [HT.out]; exact hjt
      obtain ⟨n, hgn⟩ : ∃ n, s.d[j] = n := ⟨_, rfl⟩
      have hmem : n ∈ s.d := by rw [← hgn]; exact List.getElem_mem hjl
      have htk : s.d.take (j + 1) = s.d.take j ++ [n] := by rw [List.take_add_one, List.getElem?_eq_getElem hjl, hgn]; rfl
      have hget : ((s.at_ j).d.map (hdk (s.at_ j).B V))[j]? = some (hdk s.B V n) := by
        rw [List.getElem?_map]
        show (s.d[j]?).map _ = _
        rw [List.getElem?_eq_getElem hjl, hgn]
        rfl
      obtain ⟨b, o, rfl, hc⟩ := hdr.at_ hget
      obtain ⟨k, hk⟩ : ∃ k, (s.B n).1 = k := ⟨_, rfl⟩
      obtain ⟨ys, hys⟩ : ∃ ys, (s.B n).2 = ys := ⟨_, rfl⟩
      obtain ⟨v, hv⟩ : ∃ v, V n = v := ⟨_, rfl⟩
      have y0 := hc.c0
      have y1 := hc.c1
      have y2 := hc.c2
      simp only [hdk] at y0 y1 y2
      rw [hk] at y1
      rw [hv] at y2
      have R1 : Rd .u8 wr v ys := by have := h.bod n (.inl hmem); rw [hv] at this; rw [← hys]; exact this
      have hm := HOK.out.may n (.inl hmem)
      rw [hk, hys] at hm
      have hn60 := HOK.out.dl n hmem
      have HMY : Hid ((50 ≤ n ∧ n < 60) ∧ mayK (n : Int) k ys.length = true ∧ By ys ∧ s.B n = (k, ys)) := ⟨hn60, hm.1, hm.2, by rw [← hk, ← hys]⟩
      have HBQ : Hid (∀ i, v.ownBlock = some i → ys ≠ [] → Yj i ∧ i ≠ q) := fun i hi h0 => h.bq n (.inl hmem) i (by rw [hv]; exact hi) (by show (s.B n).2 ≠ []; rw [hys]; exact h0)
      have HNX : Hid (s.at_ (j + 1) = (s.at_ j).ask n (k, ys) ∧ flD E s.B (s.d.take (j + 1)) = (flD E s.B (s.d.take j)).wr n (sec (n : Int) k ys)) := by
        refine ⟨?_, ?_⟩
        · rw [at_next htk, HMY.out.2.2.2]
        · rw [htk, flD_app, HMY.out.2.2.2]
      have HVN : Hid (V n = v ∧ n ∈ s.d) := ⟨hv, hmem⟩
      obtain ⟨Ej, hEj⟩ : ∃ Ej, flD E s.B (s.d.take j) = Ej := ⟨_, rfl⟩
      have HEJ : Hid ((∀ i, (Ej.V i).length < 274877906943) ∧ Ej.L.length = 60) := by
        refine ⟨fun i => ?_, by rw [← hEj]; exact HZJ.out.len⟩
        rw [← hEj]
        have h1 := flD_V E s.B (s.d.take j) i
        have h2 := HV.out i
        have h3 : (s.d.take j).length ≤ t := by rw [List.length_take]; omega
        omega
      rw [hEj] at HZJ HNX
      obtain ⟨a, m, cap, rfl⟩ : ∃ a m cap, v = .slice a m cap := by obtain ⟨a, c, e, _⟩ := R1; exact ⟨_, _, _, e⟩
      obtain ⟨W2, hW2⟩ : ∃ W2, wr.alloc (.cells #[.int .i64 (n : Int), .int .i64 k, .slice a m cap] 85) = W2 := ⟨_, rfl⟩
      have B2 : Hid (Below wr.heap.size wr W2) := by rw [← hW2]; exact (Below.refl _ _).alloc (Nat.le_refl _) _
      have X2 : Hid (W2.heap[wr.heap.size]? = some (.cells #[.int .i64 (n : Int), .int .i64 k, .slice a m cap] 85 (0, 0))) := by rw [← hW2]; exact heap_alloc_new wr _
      have R2 : Hid (Rd .u8 W2 (.slice a m cap) ys) := R1.below B2.out
      have HPC := hideP (rput_code (n : Int) k (.slice a m cap) ys W2 R2.out HMY.out.2.2.1)
      rw [HMY.out.2.1] at HPC
      simp only [if_true] at HPC
      have HW2 : Hid (wr.alloc (.cells #[.int .i64 (n : Int), .int .i64 k, .slice a m cap] 85) = W2) := hW2
      obtain ⟨p0, p1, p2⟩ := loadH X2.out
      have p0' : (wr.alloc (.cells #[.int .i64 (n : Int), .int .i64 k, .slice a m cap] 85)).cell? ⟨wr.heap.size, 0, none⟩ = some (.int .i64 (n : Int)) := by rw [hW2]; exact p0
      clear h hZj hTj hYj hRj hdr hc hget hmem htk hgn hjl hk hys hv hm R1 hEj hdt hn60
      unfold blk at HPC
      go_wp2_with fail
      refine HPC.out.mono ?_
      rintro e w3 ⟨sa, sm, sc, rfl, hb3, hs3⟩
      have B3 : Hid (Below wr.heap.size wr w3) := B2.out.trans (hb3.mono B2.out.size)
      have HS3 : Hid (Rd .u8 w3.drew (.slice sa sm sc) (sec (n : Int) k ys)) := (hs3 trivial).1.below (Below.refl _ _).drew
      have HSN : Hid (∀ j, (Value.slice sa sm sc).ownBlock = some j → ¬ Rj j) := fun i hi e => by
        have h1 := (hs3 trivial).2 i hi; have h2 := HZJ.out.rf.rlt i e; have h3 := B2.out.size; omega
      have b3 : Below wr.heap.size wr w3.drew := B3.out.trans ((Below.refl w3.heap.size w3).drew.mono B3.out.size)
      have X3 : Hid (w3.heap[wr.heap.size]? = some (.cells #[.int .i64 (n : Int), .int .i64 k, .slice a m cap] 85 (0, 0))) := by rw [hb3.block _ (Array.getElem?_eq_some_iff.1 X2.out).1]; exact X2.out
      have H3 : Hid (RqAt Yj w3 q r (s.at_ j) (.slice (some ⟨b, o, none⟩) t dc) cv V) := H.out.below B3.out
      have Z3 : Hid (Rz Yj Rj w3.drew q r (s.at_ j) Ej) := HZJ.out.below b3
      have HBS : Hid (By (sec (n : Int) k ys) ∧ (sec (n : Int) k ys).length = 256) := by
        obtain ⟨m1, m2, m3, m4, m5⟩ := mayK_iff.1 HMY.out.2.1
        exact ⟨sec_by (by omega) (by omega) HMY.out.2.2.1 (by omega), sec_len _ _ (by omega)⟩
      have HWR := hideP (refWrite_all (n : Int) (.slice sa sm sc) (sec (n : Int) k ys) w3.drew Z3.out.rf HS3.out HBS.out.1 HSN.out HEJ.out.1)
      have HWE : Hid (wrr Ej (n : Int) (sec (n : Int) k ys) = Ej.wr n (sec (n : Int) k ys)) := by
        show _ = _
        unfold wrr
        have h1 := HMY.out.1
        have h2 := HEJ.out.2
        rw [if_neg (by omega), if_pos HBS.out.2]
        rfl
      have e0 := H3.out.c0
      have x0 := (loadH X3.out).1
      have hS : w3.drew.cell? ⟨q, 0, none⟩ = some (.pointer (some ⟨r, 0, none⟩)) ∧ w3.drew.cell? ⟨wr.heap.size, 0, none⟩ = some (.int .i64 (n : Int)) := ⟨e0, x0⟩
      have HST : Hid (∀ W4, RfTo Rj w3.drew W4 r (Ej.wr n (sec (n : Int) k ys)) → (W4.cell? ⟨q, 0, none⟩ = some (.pointer (some ⟨r, 0, none⟩)) ∧ W4.cell? ⟨wr.heap.size, 0, none⟩ = some (.int .i64 (n : Int))) ∧ Hid (RqAt Yj W4 q r (s.at_ j) (.slice (some ⟨b, o, none⟩) t dc) cv V) ∧ Hid (W4.heap[wr.heap.size]? = some (.cells #[.int .i64 (n : Int), .int .i64 k, .slice a m cap] 85 (0, 0))) ∧ Hid (∃ R4, Rz Yj R4 W4 q r (s.at_ j) (Ej.wr n (sec (n : Int) k ys)) ∧ Tch (fun k => Yj k ∨ Rj k) wr W4 ∧ ∀ k, R4 k → Rj k ∨ wr.heap.size ≤ k)) := fun W4 ⟨R4, h1, h2, h3⟩ => by
        have hsz := b3.size
        have hR : ∀ k, R4 k → Rj k ∨ wr.heap.size ≤ k := fun k hk => (h3 k hk).imp id (fun e => Nat.le_trans hsz e)
        have ha : RqAt Yj W4 q r (s.at_ j) (.slice (some ⟨b, o, none⟩) t dc) cv V := (H.out.below b3).tch h2 (fun k hk e => HZJ.out.ap k hk e)
        have hx : W4.heap[wr.heap.size]? = some (.cells #[.int .i64 (n : Int), .int .i64 k, .slice a m cap] 85 (0, 0)) := by
          rw [h2.block _ (Array.getElem?_eq_some_iff.1 X3.out).1 (fun e => by have := HZJ.out.rf.rlt _ e; omega)]
          exact X3.out
        refine ⟨⟨ha.c0, (loadH hx).1⟩, ha, hx, R4, ⟨⟨_, _, _, ha⟩, h1, by rw [wr_LK]; exact HEJ.out.2, fun k hk hs => ?_⟩, (Tch.of_below b3).trans (h2.mono (fun k _ e => .inr e)) (fun _ _ e => e), hR⟩
        rcases hR k hs with e | e
        · exact HZJ.out.ap k hk e
        · have := H.out.ylt k hk; omega
      rw [HWE.out] at HWR
      clear hb3 hs3 HPC hW2 HW2 p0 p1 p2 p0' y0 y1 y2 c2 b3 X2 R2
      go_wp2_with fail
      go_region_held3 (fun w' => w'.cell? ⟨q, 0, none⟩ = some (.pointer (some ⟨r, 0, none⟩)) ∧ w'.cell? ⟨wr.heap.size, 0, none⟩ = some (.int .i64 (n : Int))) (first | go_keep | exact hS2)
        (first
          | (go_at_call 57; refine HWR.out.mono ?_; rintro e W4 ⟨rfl, h4⟩; obtain ⟨hS2, H4, X4, Z4⟩ := HST.out W4 h4; clear h4))
      rename_i hHeld
      clear hHeld
      have R4 : Hid (Rd .u8 W4 (.slice a m cap) ys) := by
        have h1 := H4.out.bod n (.inl HVN.out.2)
        have e : ((s.at_ j).B n).2 = ys := congrArg Prod.snd HMY.out.2.2.2
        rw [HVN.out.1, e] at h1
        exact h1
      have HAK := hideP (ask_any n k (.slice a m cap) ys W4 H4.out R4.out (by have := HMY.out.1; omega) HBQ.out (.inr ⟨HMY.out.2.2.2, HVN.out.1⟩))
      obtain ⟨p0, p1, p2⟩ := loadH X4.out
      unfold hdv at HAK
      clear HWR HST hS hS2 e0 x0 HSN HS3 HBS HWE X3 H3 Z3
      go_wp2_with fail
      refine HAK.out.mono ?_
      rintro e w5 ⟨rfl, h5, _⟩
      have Z5 : Hid (RzTo Y R w w5 q r (s.at_ (j + 1)) (flD E s.B (s.d.take (j + 1)))) := by
        rw [HNX.out.1, HNX.out.2]
        obtain ⟨R4, z4, t4, r4⟩ := Z4.out
        exact RzTo.after HTJ.out.1 HTJ.out.2.1 HTJ.out.2.2 (RzTo.after t4 (fun _ e => .inl e) r4 (z4.rqTo h5))
      clear h5 HAK p0 p1 p2 Z4 H4 X4 R4
      go_wp2_with fail
      go_roundw
      case rel => exact ⟨j + 1, by omega, by go_num, Z5⟩
      case measure => simp [intOf]; omega
    · have hjn : ¬ (j : Int) < (t : Int) := by omega
      have f2 := h.fz 2
      obtain ⟨W2, hW2⟩ : ∃ W2, wr.setCell ⟨q, 2, none⟩ (.slice none 0 0) = W2 := ⟨_, rfl⟩
      have HF : Hid (RzTo Y R w W2 q r s.flush (s.flushD E)) := by
        have ej : j = s.d.length := by rw [HT.out]; omega
        have t4 : Tch (fun k => k = q) wr W2 := by rw [← hW2]; exact tch_set wr q 2 _
        have h1 : RqTo Yj wr W2 q r ({ s.at_ j with d := [] } : CS) := by
          refine H.out.turn (s' := ({ s.at_ j with d := [] } : CS)) (V' := V) (dv' := .slice none 0 0) (cv' := cv) t4 ?_ (rdH_nil _) ?_ (fun k e => by cases e) (fun k hk h0 => .inl ⟨hk, h0⟩) (fun k hk => .inl ⟨.inr (hk.resolve_left (by simp)), rfl, rfl⟩) H.out.rm1 rfl (by simp)
          · rw [← hW2, heap_setCell_same wr q 2 _ _ _ H.out.box]; rfl
          · exact H.out.cr.tch t4 (fun k hk h0 e => (H.out.cq k hk (fun e => h0 (by rw [e]; rfl))).2 e)
        have h2 := HZJ.out.rqTo h1
        rw [ej, at_end, List.take_length] at h2
        exact RzTo.after HTJ.out.1 HTJ.out.2.1 HTJ.out.2.2 h2
      clear h hZj hTj hYj hRj hdr ZK hdt
      go_wp2_with fail
      go_end0
      exact ⟨rfl, HF.out⟩
end Go.Proofs.Ytgpaklifjonlkaa
/-
  The program's cache and the document's, side by side, and what lies beside them.
-/
namespace Go.Proofs.Ytgpaklifjonlkaa
open Go.RowKit Go.Maps
set_option linter.unusedVariables false
set_option linter.unusedSimpArgs false
set_option maxRecDepth 100000

/-- The blocks' sides: P the program's, Q the document's, Z beside both, as they were in wz. -/
structure Da (w0 wz w : World) (Z P Q : Nat → Prop) : Prop where
  p0 : ∀ k, P k → w0.heap.size ≤ k
  q0 : ∀ k, Q k → w0.heap.size ≤ k
  plt : ∀ k, P k → k < w.heap.size
  qlt : ∀ k, Q k → k < w.heap.size
  ap : ∀ k, P k → ¬ Q k
  be : Below w0.heap.size w0 w
  bz : Below w0.heap.size w0 wz
  z0 : wz.heap.size ≤ w.heap.size
  zz : ∀ k, Z k → k < wz.heap.size ∧ w.heap[k]? = wz.heap[k]? ∧ ¬ P k ∧ ¬ Q k
def Dz (w0 wz w : World) (Z : Nat → Prop) (c d q r : Nat) (s : CS) (D : DS) (t : CS) (E : DS) : Prop :=
  ∃ X S Y R, Cz X S w c d 60 s D ∧ Rz Y R w q r t E ∧ Da w0 wz w Z (fun k => X k ∨ S k) (fun k => Y k ∨ R k)

section
variable {w0 wz w w' : World} {Z : Nat → Prop} {c d q r : Nat} {s s' t t' : CS} {D D' E E' : DS}
theorem Dz.ok (H : Dz w0 wz w Z c d q r s D t E) : COk 60 s := by obtain ⟨X, S, Y, R, h, _⟩ := H; exact h.ch.ok
theorem Dz.len (H : Dz w0 wz w Z c d q r s D t E) : D.L.length = 60 := by obtain ⟨X, S, Y, R, h, _⟩ := H; exact h.len
theorem Dz.lenE (H : Dz w0 wz w Z c d q r s D t E) : E.L.length = 60 := by obtain ⟨X, S, Y, R, _, h, _⟩ := H; exact h.len
theorem Dz.below0 (H : Dz w0 wz w Z c d q r s D t E) : Below w0.heap.size w0 w := by obtain ⟨X, S, Y, R, _, _, h⟩ := H; exact h.be
theorem Dz.has_ok (H : Dz w0 wz w Z c d q r s D t E) {i : Nat} (hi : i < 60) : (D.has i).length = 256 ∧ By (D.has i) := by obtain ⟨X, S, Y, R, h, _⟩ := H; exact h.dk.has_ok (by rw [h.len]; exact hi)
/-- What lies beside is as it was. -/
theorem Dz.tz (H : Dz w0 wz w Z c d q r s D t E) : Tch (fun k => ¬ Z k) wz w := by
  obtain ⟨X, S, Y, R, _, _, h⟩ := H
  exact ⟨h.be.os.trans h.bz.os.symm, h.be.tape.trans h.bz.tape.symm, h.be.output.trans h.bz.output.symm, h.z0, fun k hk hn => (h.zz k (Classical.not_not.1 hn)).2.1⟩
theorem Dz.box (H : Dz w0 wz w Z c d q r s D t E) {k : Nat} (hk : Z k) {cs : Array Value} {ty : TypeId} (hB : Box wz k cs ty) : Box w k cs ty := by
  obtain ⟨X, S, Y, R, _, _, h⟩ := H
  unfold Box
  rw [(h.zz k hk).2.1]
  exact hB
theorem Dz.rd (H : Dz w0 wz w Z c d q r s D t E) {kd : IntKind} {v : Value} {ys : List Int} (h : Rd kd wz v ys) (hz : ∀ j, v.ownBlock = some j → ys ≠ [] → Z j) : Rd kd w v ys := h.tch0 H.tz (fun j hj h0 e => e (hz j hj h0))
theorem Da.stepP {X S Y R : Nat → Prop} (H : Da w0 wz w Z (fun k => X k ∨ S k) (fun k => Y k ∨ R k)) (hr : Rz Y R w q r t E) (h : CzTo X S w w' c d 60 s' D') : Dz w0 wz w' Z c d q r s' D' t E := by
  obtain ⟨X', S', hc', ht, hx', hs'⟩ := h
  have hsz := ht.size
  have hbz := H.be.size
  have hz0 := H.z0
  have hp : ∀ k, (X' k ∨ S' k) → (X k ∨ S k) ∨ w.heap.size ≤ k := fun k hk => by
    rcases hk with e | e
    · exact (hx' k e).imp .inl id
    · exact (hs' k e).imp .inr id
  refine ⟨X', S', Y, R, hc', hr.tch ht (fun k hk e => H.ap k e (.inl hk)) (fun k hk e => H.ap k e (.inr hk)), ?_⟩
  exact {
    p0 := fun k hk => by
      rcases hp k hk with e | e
      · exact H.p0 k e
      · omega
    q0 := H.q0
    plt := fun k hk => by
      rcases hk with e | e
      · exact hc'.ch.lt k e
      · exact hc'.dk.slt k e
    qlt := fun k hk => Nat.lt_of_lt_of_le (H.qlt k hk) hsz
    ap := fun k hk hq => by
      rcases hp k hk with e | e
      · exact H.ap k e hq
      · have := H.qlt k hq; omega
    be := H.be.trans (ht.below H.be.size (fun k e => H.p0 k e))
    bz := H.bz
    z0 := by omega
    zz := fun k hk => by
      obtain ⟨h1, h2, h3, h4⟩ := H.zz k hk
      refine ⟨h1, ?_, fun e => ?_, h4⟩
      · rw [ht.block k (by omega) h3]; exact h2
      · rcases hp k e with e | e
        · exact h3 e
        · omega }
theorem Da.stepQ {X S Y R : Nat → Prop} (H : Da w0 wz w Z (fun k => X k ∨ S k) (fun k => Y k ∨ R k)) (hc : Cz X S w c d 60 s D) (h : RzTo Y R w w' q r t' E') : Dz w0 wz w' Z c d q r s D t' E' := by
  obtain ⟨Y', R', hr', ht, hx', hs'⟩ := h
  have hsz := ht.size
  have hbz := H.be.size
  have hz0 := H.z0
  have hp : ∀ k, (Y' k ∨ R' k) → (Y k ∨ R k) ∨ w.heap.size ≤ k := fun k hk => by
    rcases hk with e | e
    · exact (hx' k e).imp .inl id
    · exact (hs' k e).imp .inr id
  refine ⟨X, S, Y', R', hc.tch ht (fun k hk e => H.ap k (.inl hk) e) (fun k hk e => H.ap k (.inr hk) e), hr', ?_⟩
  exact {
    p0 := H.p0
    q0 := fun k hk => by
      rcases hp k hk with e | e
      · exact H.q0 k e
      · omega
    plt := fun k hk => Nat.lt_of_lt_of_le (H.plt k hk) hsz
    qlt := fun k hk => by
      rcases hk with e | e
      · exact hr'.rq.lt k e
      · exact hr'.rf.rlt k e
    ap := fun k hk hq => by
      rcases hp k hq with e | e
      · exact H.ap k hk e
      · have := H.plt k hk; omega
    be := H.be.trans (ht.below H.be.size (fun k e => H.q0 k e))
    bz := H.bz
    z0 := by omega
    zz := fun k hk => by
      obtain ⟨h1, h2, h3, h4⟩ := H.zz k hk
      refine ⟨h1, ?_, h3, fun e => ?_⟩
      · rw [ht.block k (by omega) h4]; exact h2
      · rcases hp k e with e | e
        · exact h4 e
        · omega }
/-- Blocks beside them are written, and what is new is beside them, too. -/
theorem Dz.side (H : Dz w0 wz w Z c d q r s D t E) {T : Nat → Prop} (ht : Tch T w w') (hT : ∀ k, T k → Z k) (h0 : ∀ k, T k → w0.heap.size ≤ k) (Z' : Nat → Prop) (hZ' : ∀ k, Z' k → Z k ∨ (w.heap.size ≤ k ∧ k < w'.heap.size)) : Dz w0 w' w' Z' c d q r s D t E := by
  obtain ⟨X, S, Y, R, hc, hr, h⟩ := H
  have hsz := ht.size
  have hz0 := h.z0
  have hb := h.be.trans (ht.below h.be.size (fun k e => h0 k e))
  refine ⟨X, S, Y, R, hc.tch ht (fun k hk e => (h.zz k (hT k e)).2.2.1 (.inl hk)) (fun k hk e => (h.zz k (hT k e)).2.2.1 (.inr hk)), hr.tch ht (fun k hk e => (h.zz k (hT k e)).2.2.2 (.inl hk)) (fun k hk e => (h.zz k (hT k e)).2.2.2 (.inr hk)), ?_⟩
  exact {
    p0 := h.p0
    q0 := h.q0
    plt := fun k hk => Nat.lt_of_lt_of_le (h.plt k hk) hsz
    qlt := fun k hk => Nat.lt_of_lt_of_le (h.qlt k hk) hsz
    ap := h.ap
    be := hb
    bz := hb
    z0 := Nat.le_refl _
    zz := fun k hk => by
      rcases hZ' k hk with e | e
      · obtain ⟨h1, h2, h3, h4⟩ := h.zz k e
        exact ⟨by omega, rfl, h3, h4⟩
      · exact ⟨e.2, rfl, fun e2 => by have := h.plt k e2; omega, fun e2 => by have := h.qlt k e2; omega⟩ }
theorem Dz.enter (H : Dz w0 wz w Z c d q r s D t E) (hb : Below w.heap.size w w') (Z' : Nat → Prop) (hZ' : ∀ k, Z' k → Z k ∨ (w.heap.size ≤ k ∧ k < w'.heap.size)) : Dz w0 w' w' Z' c d q r s D t E :=
  H.side (T := fun _ => False) (Tch.of_below hb) (fun _ e => e.elim) (fun _ e => e.elim) Z' hZ'
theorem Dz.leave (H : Dz w0 wz w Z c d q r s D t E) : Dz w0 w0 w (fun _ => False) c d q r s D t E := by
  obtain ⟨X, S, Y, R, hc, hr, h⟩ := H
  exact ⟨X, S, Y, R, hc, hr, { h with bz := Below.refl _ _, z0 := h.be.size, zz := fun k hk => hk.elim }⟩
theorem Dz.still (H : Dz w0 wz w Z c d q r s D t E) (ht : Tch (fun _ => False) w w') : Dz w0 wz w' Z c d q r s D t E := by
  obtain ⟨X, S, Y, R, hc, hr, h⟩ := H
  exact h.stepP hr ⟨X, S, hc.tch ht (fun _ _ e => e) (fun _ _ e => e), ht.mono (fun _ _ e => e.elim), fun _ e => .inl e, fun _ e => .inl e⟩
theorem Dz.below (H : Dz w0 wz w Z c d q r s D t E) (hb : Below w.heap.size w w') : Dz w0 wz w' Z c d q r s D t E := H.still (Tch.of_below hb)
theorem Dz.drew (H : Dz w0 wz w Z c d q r s D t E) (n : Nat) : Dz w0 wz (w.drewN n) Z c d q r s D t E := H.still ⟨rfl, rfl, rfl, Nat.le_refl _, fun _ _ _ => rfl⟩
theorem Dz.drew1 (H : Dz w0 wz w Z c d q r s D t E) : Dz w0 wz w.drew Z c d q r s D t E := H.still ⟨rfl, rfl, rfl, Nat.le_refl _, fun _ _ _ => rfl⟩
theorem Da.noP {P Q : Nat → Prop} (H : Da w0 wz w Z P Q) {j : Nat} (h : j < w0.heap.size ∨ Z j) : ¬ P j := fun e => by
  rcases h with h | h
  · have := H.p0 j e; omega
  · exact (H.zz j h).2.2.1 e
theorem Da.noQ {P Q : Nat → Prop} (H : Da w0 wz w Z P Q) {j : Nat} (h : j < w0.heap.size ∨ Z j) : ¬ Q j := fun e => by
  rcases h with h | h
  · have := H.q0 j e; omega
  · exact (H.zz j h).2.2.2 e

theorem putDz (H : Dz w0 wz w Z c d q r s D t E) (n k : Int) (v : Value) (ys : List Int) (hr : Rd .u8 w v ys) (hb : By ys) (hv : ∀ j, v.ownBlock = some j → ys ≠ [] → j < w0.heap.size ∨ Z j) :
    Calls Try.prog 20 #[cp c, .int .i64 n, blk k v] w fun e w' => e = .returned (.int .i64 (s.putE 60 n k ys)) ∧ Dz w0 wz w' Z c d q r (s.putS 60 n k ys) D t E := by
  obtain ⟨X, S, Y, R, hc, hq, h⟩ := H
  refine (putK_any n k v ys w hc.ch hc.dk hc.len hr hb (fun j hj h0 e => h.noP (hv j hj h0) (.inl e))).mono ?_
  rintro e w' ⟨rfl, h2⟩
  exact ⟨rfl, h.stepP hq (hc.chTo h2)⟩
theorem rputDz (H : Dz w0 wz w Z c d q r s D t E) (ho : COk 60 t) (n k : Int) (v : Value) (ys : List Int) (hr : Rd .u8 w v ys) (hb : By ys) (hv : ∀ j, v.ownBlock = some j → ys ≠ [] → j < w0.heap.size ∨ Z j) :
    Calls Try.prog 27 #[cp q, .int .i64 n, blk k v] w fun e w' => e = .returned (.int .i64 (t.putE 60 n k ys)) ∧ Dz w0 wz w' Z c d q r s D (t.putS 60 n k ys) E := by
  obtain ⟨X, S, Y, R, hc, hq, h⟩ := H
  refine (rput_any n k v ys w hq.rq hq.rf hq.len ho hr hb (fun j hj h0 e => h.noQ (hv j hj h0) (.inl (by rw [e]; exact hq.yq)))).mono ?_
  rintro e w' ⟨rfl, h2⟩
  exact ⟨rfl, h.stepQ hc (hq.rqTo h2)⟩
theorem getDz (H : Dz w0 wz w Z c d q r s D t E) (n : Int) :
    Calls Try.prog 22 #[cp c, .int .i64 n] w fun e w' => ∃ u, e = .returned (.tuple #[blk (s.getB D n).1 u, .int .i64 (s.getE D n)]) ∧ Nw w.heap.size w' u (s.getB D n).2 ∧ Dz w0 wz w' Z c d q r (s.getS D n) D t E ∧ Dz w0 w' w' (fun k => Z k ∨ (u.ownBlock = some k ∧ (s.getB D n).2 ≠ [])) c d q r (s.getS D n) D t E := by
  obtain ⟨X, S, Y, R, hc, hq, h⟩ := H
  refine (getK_any n w hc.ch hc.dk hc.len).mono ?_
  rintro e w' ⟨u, rfl, hn, X', h1, h2, h3, h4⟩
  have hP : Dz w0 wz w' Z c d q r (s.getS D n) D t E := h.stepP hq (hc.chTo ⟨X', h1, h2, h3⟩)
  refine ⟨u, rfl, hn, hP, ?_⟩
  have hsz := h2.size
  have hz0 := h.z0
  have hb0 := h.be.size
  have hxs : ∀ k, X' k → X k ∨ w.heap.size ≤ k := h3
  have hq2 : Rz Y R w' q r t E := hq.tch h2 (fun k hk e => h.ap k (.inl e) (.inl hk)) (fun k hk e => h.ap k (.inl e) (.inr hk))
  refine ⟨X', S, Y, R, ⟨h1, hc.dk.tch h2 (fun k hk e => hc.ap k e hk), hc.len, fun k hk hs => ?_⟩, hq2, ?_⟩
  · rcases h3 k hk with e | e
    · exact hc.ap k e hs
    · have := hc.dk.slt k hs; omega
  · exact {
      p0 := fun k hk => by
        rcases hk with e | e
        · rcases hxs k e with e | e
          · exact h.p0 k (.inl e)
          · omega
        · exact h.p0 k (.inr e)
      q0 := h.q0
      plt := fun k hk => by
        rcases hk with e | e
        · exact h1.lt k e
        · exact Nat.lt_of_lt_of_le (h.plt k (.inr e)) hsz
      qlt := fun k hk => Nat.lt_of_lt_of_le (h.qlt k hk) hsz
      ap := fun k hk hk2 => by
        rcases hk with e | e
        · rcases hxs k e with e | e
          · exact h.ap k (.inl e) hk2
          · have := h.qlt k hk2; omega
        · exact h.ap k (.inr e) hk2
      be := hP.below0
      bz := hP.below0
      z0 := Nat.le_refl _
      zz := fun k hk => by
        rcases hk with hk | ⟨hk, h0⟩
        · obtain ⟨q1, q2, q3, q4⟩ := h.zz k hk
          refine ⟨by omega, rfl, fun e => ?_, q4⟩
          rcases e with e | e
          · rcases hxs k e with e | e
            · exact q3 (.inl e)
            · omega
          · exact q3 (.inr e)
        · have hnk := hn.new k hk
          refine ⟨hn.rd.blk_lt h0 hk, rfl, fun e => ?_, fun e => by have := h.qlt k e; omega⟩
          rcases e with e | e
          · exact h4 k hk e
          · have := hc.dk.slt k e; omega }
theorem rgetDz (H : Dz w0 wz w Z c d q r s D t E) (hby : ∀ i, i < 60 → By (E.has i)) (n : Int) :
    Calls Try.prog 26 #[cp q, .int .i64 n] w fun e w' => ∃ u, e = .returned (.tuple #[blk (t.getB E n).1 u, .int .i64 (t.getE E n)]) ∧ Rd .u8 w' u (t.getB E n).2 ∧ Dz w0 wz w' Z c d q r s D (t.getS E n) E := by
  obtain ⟨X, S, Y, R, hc, hq, h⟩ := H
  refine (rget_any n w hq.rq hq.rf hq.len hby).mono ?_
  rintro e w' ⟨u, rfl, hn, h2⟩
  exact ⟨u, rfl, hn, h.stepQ hc (hq.rqTo h2)⟩
theorem forgetDz (H : Dz w0 wz w Z c d q r s D t E) (n : Int) (hz : (Lit.int .i64 n).wf = true) :
    Calls Try.prog 24 #[cp c, .int .i64 n] w fun e w' => e = .returned (.tuple #[]) ∧ Dz w0 wz w' Z c d q r (s.forget n) D t E := by
  obtain ⟨X, S, Y, R, hc, hq, h⟩ := H
  refine (forget_any n w hc.ch hz).mono ?_
  rintro e w' ⟨rfl, h2⟩
  exact ⟨rfl, h.stepP hq (hc.chTo h2)⟩
theorem rforgetDz (H : Dz w0 wz w Z c d q r s D t E) (n : Int) :
    Calls Try.prog 28 #[cp q, .int .i64 n] w fun e w' => e = .returned (.tuple #[]) ∧ Dz w0 wz w' Z c d q r s D (t.forget n) E := by
  obtain ⟨X, S, Y, R, hc, hq, h⟩ := H
  refine (rforget_any n w hq.rq).mono ?_
  rintro e w' ⟨rfl, h2⟩
  exact ⟨rfl, h.stepQ hc (hq.rqTo h2)⟩
theorem flushDz (H : Dz w0 wz w Z c d q r s D t E) (hV : ∀ i, (D.V i).length + 4096 < 274877906943) :
    Calls Try.prog 21 #[cp c] w fun e w' => e = .returned (.int .i64 0) ∧ Dz w0 wz w' Z c d q r s.flush (s.flushD D) t E := by
  obtain ⟨X, S, Y, R, hc, hq, h⟩ := H
  refine (flushK_any w hc hV).mono ?_
  rintro e w' ⟨rfl, h2⟩
  exact ⟨rfl, h.stepP hq h2⟩
theorem rflushDz (H : Dz w0 wz w Z c d q r s D t E) (ho : COk 60 t) (hV : ∀ i, (E.V i).length + 4096 < 274877906943) :
    Calls Try.prog 29 #[cp q] w fun e w' => e = .returned (.tuple #[]) ∧ Dz w0 wz w' Z c d q r s D t.flush (t.flushD E) := by
  obtain ⟨X, S, Y, R, hc, hq, h⟩ := H
  refine (rflush_any w hq ho hV).mono ?_
  rintro e w' ⟨rfl, h2⟩
  exact ⟨rfl, h.stepQ hc h2⟩
theorem powerDz (H : Dz w0 wz w Z c d q r s D t E) (pv : Value) (ps : List Int) (hr : Rd .i64 w0 pv ps) (hV : ∀ i, (D.V i).length < 274877906944) :
    Calls Try.prog 30 #[dp d, pv] w fun e w' => e = .returned (.tuple #[]) ∧ Dz w0 wz w' Z c d q r s (D.pw ps) t E := by
  have hr2 := hr.below H.below0
  obtain ⟨X, S, Y, R, hc, hq, h⟩ := H
  refine (power_any pv ps w hc.dk hr2 (fun k hk h0 e => h.noP (.inl (hr.blk_lt h0 hk)) (.inr e)) hV).mono ?_
  rintro e w' ⟨rfl, h2⟩
  exact ⟨rfl, h.stepP hq (hc.dkTo h2 (by rw [pw_len]; exact hc.len))⟩
theorem rpowerDz (H : Dz w0 wz w Z c d q r s D t E) (pv : Value) (ps : List Int) (hr : Rd .i64 w0 pv ps) (hV : ∀ i, (E.V i).length < 274877906944) :
    Calls Try.prog 31 #[dp r, pv] w fun e w' => e = .returned (.tuple #[]) ∧ Dz w0 wz w' Z c d q r s D t (E.pw ps) := by
  have hr2 := hr.below H.below0
  obtain ⟨X, S, Y, R, hc, hq, h⟩ := H
  refine (refPower_any pv ps w hq.rf hr2 (fun k hk h0 e => h.noQ (.inl (hr.blk_lt h0 hk)) (.inr e)) hV).mono ?_
  rintro e w' ⟨rfl, h2⟩
  exact ⟨rfl, h.stepQ hc (hq.rfTo h2 (by rw [pw_len]; exact hq.len))⟩
theorem rtt_L (D : DS) (b : Int) : (rtt D b).L.length = D.L.length := by
  unfold rtt
  split
  · rfl
  · simp [DS.rot]
theorem rotDz (H : Dz w0 wz w Z c d q r s D t E) (b : Int) (hw : (Lit.int .i64 b).wf = true) :
    Calls Try.prog 32 #[dp d, .int .i64 b] w fun e w' => e = .returned (.int .i64 (rco D b)) ∧ Dz w0 wz w' Z c d q r s (rtt D b) t E := by
  obtain ⟨X, S, Y, R, hc, hq, h⟩ := H
  refine (rot_all b w hc.dk hw).mono ?_
  rintro e w' ⟨rfl, h2⟩
  exact ⟨rfl, h.stepP hq (hc.dkTo h2 (by rw [rtt_L]; exact hc.len))⟩
theorem rrotDz (H : Dz w0 wz w Z c d q r s D t E) (b : Int) (hV : ∀ i, (E.V i).length < 274877906944) :
    Calls Try.prog 33 #[dp r, .int .i64 b] w fun e w' => e = .returned (.int .i64 (rco E b)) ∧ Dz w0 wz w' Z c d q r s D t (rtt E b) := by
  obtain ⟨X, S, Y, R, hc, hq, h⟩ := H
  refine (refRot_all b w hq.rf hV).mono ?_
  rintro e w' ⟨rfl, h2⟩
  exact ⟨rfl, h.stepQ hc (hq.rfTo h2 (by rw [rtt_L]; exact hq.len))⟩
theorem syncDz (H : Dz w0 wz w Z c d q r s D t E) :
    Calls Try.prog 34 #[dp d] w fun e w' => e = .returned (.tuple #[]) ∧ Dz w0 wz w' Z c d q r s D.fl t E := by
  obtain ⟨X, S, Y, R, hc, hq, h⟩ := H
  refine (flush_any w hc.dk).mono ?_
  rintro e w' ⟨rfl, h2⟩
  exact ⟨rfl, h.stepP hq (hc.dkTo h2 (by rw [fl_L]; exact hc.len))⟩
theorem rsyncDz (H : Dz w0 wz w Z c d q r s D t E) :
    Calls Try.prog 35 #[dp r] w fun e w' => e = .returned (.tuple #[]) ∧ Dz w0 wz w' Z c d q r s D t E.fl := by
  obtain ⟨X, S, Y, R, hc, hq, h⟩ := H
  refine (refFlush_any w hq.rf).mono ?_
  rintro e w' ⟨rfl, h2⟩
  exact ⟨rfl, h.stepQ hc (hq.rfTo h2 (by rw [fl_L]; exact hq.len))⟩
theorem dirtyDz (H : Dz w0 wz w Z c d q r s D t E) :
    Calls Try.prog 13 #[cp c] w fun e w' => ∃ v, e = .returned v ∧ Rd .i64 w' v (s.d.map Int.ofNat) ∧ Below w.heap.size w w' := by
  obtain ⟨X, S, Y, R, hc, hq, h⟩ := H
  refine (dirtyK_any w hc.ch).mono ?_
  rintro e w' ⟨v, rfl, h1, h2, h3⟩
  exact ⟨v, rfl, h1.rd, h2⟩
theorem cleanDz (H : Dz w0 wz w Z c d q r s D t E) :
    Calls Try.prog 15 #[cp c] w fun e w' => ∃ v, e = .returned v ∧ Rd .i64 w' v (s.c.map Int.ofNat) ∧ Below w.heap.size w w' := by
  obtain ⟨X, S, Y, R, hc, hq, h⟩ := H
  refine (clean_any w hc.ch).mono ?_
  rintro e w' ⟨v, rfl, h1, h2, h3⟩
  exact ⟨v, rfl, h1.rd, h2⟩
theorem ddirtyDz (H : Dz w0 wz w Z c d q r s D t E) :
    Calls Try.prog 16 #[dp d] w fun e w' => ∃ v, e = .returned v ∧ Rd .i64 w' v (D.dirty.map Int.ofNat) ∧ Below w.heap.size w w' := by
  obtain ⟨X, S, Y, R, hc, hq, h⟩ := H
  refine (dirty_any w hc.dk).mono ?_
  rintro e w' ⟨v, rfl, h1, h2, h3⟩
  exact ⟨v, rfl, h1.rd, h2⟩
theorem rddirtyDz (H : Dz w0 wz w Z c d q r s D t E) (hV : ∀ i, (E.V i).length < 274877906944) :
    Calls Try.prog 17 #[dp r] w fun e w' => ∃ v, e = .returned v ∧ Rd .i64 w' v (E.dirty.map Int.ofNat) ∧ Below w.heap.size w w' := by
  obtain ⟨X, S, Y, R, hc, hq, h⟩ := H
  refine (refDirty_any w hq.rf hV).mono ?_
  rintro e w' ⟨v, rfl, h1, h2, h3⟩
  exact ⟨v, rfl, h1.rd, h2⟩
/-- The document's lists, and their numbers. -/
theorem Dz.lists (H : Dz w0 wz w Z c d q r s D t E) : ∃ da dm dc ca cm cc, w.cell? ⟨q, 2, none⟩ = some (.slice da dm dc) ∧ w.cell? ⟨q, 3, none⟩ = some (.slice ca cm cc) ∧
    (∀ W, Below w.heap.size w W → W.cell? ⟨q, 2, none⟩ = some (.slice da dm dc) ∧ W.cell? ⟨q, 3, none⟩ = some (.slice ca cm cc) ∧
      (Calls Try.prog 14 #[.slice da dm dc] W fun e w' => ∃ v, e = .returned v ∧ Rd .i64 w' v (t.d.map Int.ofNat) ∧ Below W.heap.size W w') ∧
      (Calls Try.prog 14 #[.slice ca cm cc] W fun e w' => ∃ v, e = .returned v ∧ Rd .i64 w' v (t.c.map Int.ofNat) ∧ Below W.heap.size W w')) := by
  obtain ⟨X, S, Y, R, hc, hq, h⟩ := H
  obtain ⟨dv, cv, V, hR⟩ := hq.rq
  obtain ⟨da, dm, dc, rfl⟩ : ∃ a m cap, dv = .slice a m cap := by obtain ⟨a, c, e, _⟩ := hR.dr; exact ⟨_, _, _, e⟩
  obtain ⟨ca, cm, cc, rfl⟩ : ∃ a m cap, cv = .slice a m cap := by obtain ⟨a, c, e, _⟩ := hR.cr; exact ⟨_, _, _, e⟩
  refine ⟨da, dm, dc, ca, cm, cc, hR.c2, hR.c3, fun W hb => ?_⟩
  have hW := hR.below hb
  have e : ∀ l : List Nat, (l.map (hdk t.B V)).map (fun x => (x.n : Int)) = l.map Int.ofNat := fun l => by rw [List.map_map]; rfl
  refine ⟨hW.c2, hW.c3, ?_, ?_⟩
  · refine (numbersH_any _ _ W hW.dr (by rw [List.length_map]; have := hR.dl; omega)).mono ?_
    rintro e' w' ⟨v, rfl, h1, h2, _⟩
    rw [e] at h1
    exact ⟨v, rfl, h1.rd, h2⟩
  · refine (numbersH_any _ _ W hW.cr (by rw [List.length_map]; have h1 := hR.rm1; have h2 := hR.rm2; omega)).mono ?_
    rintro e' w' ⟨v, rfl, h1, h2, _⟩
    rw [e] at h1
    exact ⟨v, rfl, h1.rd, h2⟩
end

theorem Few.pw {D : DS} {k : Nat} (h : Few D k) (ps : List Int) : Few (D.pw ps) (k + 1) := fun i => by
  have h1 := h i
  have h2 := pers_V D D.dirty ps i D.dirty.length (Nat.le_refl _)
  show ((D.pers D.dirty ps D.dirty.length).V i).length ≤ _
  rw [h2]
  split
  · exact Nat.zero_le _
  · omega
theorem Few.rot {D : DS} {k : Nat} (h : Few D k) (b : Int) : Few (rtt D b) (k + 1) := fun i => by
  have h1 := h i
  unfold rtt
  split
  · omega
  · show (vput D.V (b.toNat / 2048) _ i).length ≤ _
    unfold vput
    split
    · rename_i e; rw [e] at h1; rw [List.length_map]; omega
    · omega
theorem Few.fl {D : DS} {k : Nat} (h : Few D k) : Few D.fl (k + 1) := fun i => by
  have h1 := h i
  unfold DS.fl
  split
  · exact Nat.zero_le _
  · omega
end Go.Proofs.Ytgpaklifjonlkaa
/-
  A deed, of both: what is left; the deeds without loops.
-/
namespace Go.Proofs.Ytgpaklifjonlkaa
open Go.RowKit Go.Maps
set_option linter.unusedVariables false
set_option linter.unusedSimpArgs false
set_option maxRecDepth 100000

/-- What a deed leaves: both are the same again. -/
def DoesR (w0 : World) (c d q r K : Nat) (w' : World) : Prop := ∃ s' D', Dz w0 w0 w' (fun _ => False) c d q r s' D' s' D' ∧ Few D' (K + 1)
theorem deed_cells {w : World} {g : Nat} {a b e : Int} {u v : Value} {t : TypeId} (h : Box w g #[.int .i64 a, .int .i64 b, .int .i64 e, u, v] t) : w.cell? ⟨g, 0, none⟩ = some (.int .i64 a) ∧ w.cell? ⟨g, 1, none⟩ = some (.int .i64 b) ∧ w.cell? ⟨g, 2, none⟩ = some (.int .i64 e) ∧ w.cell? ⟨g, 3, none⟩ = some u ∧ w.cell? ⟨g, 4, none⟩ = some v :=
  ⟨h.cell 0, h.cell 1, h.cell 2, h.cell 3, h.cell 4⟩

set_option maxHeartbeats 2000000 in
theorem does_forget {w0 : World} {c d q r : Nat} {s : CS} {D : DS} {K : Nat} (kind xn bk : Int) (bv pv : Value) (body ps : List Int) (w : World) (H : Dz w0 w0 w (fun _ => False) c d q r s D s D) (hF : Few D K) (hK : K ≤ 1048576) (hx : KqOk w0 ⟨kind, xn, bk, bv, body, pv, ps⟩) (hl : body.length ≤ 1048576) (hp : pk kind 7 = 2) :
    Calls Try.prog 11 #[dp d, cp c, dp r, cp q, .agg #[.int .i64 kind, .int .i64 xn, .int .i64 bk, bv, pv]] w fun e w' => e = .returned (.bool true) ∧ DoesR w0 c d q r K w' := by
  have HF : Hid (Few D K) := hF
  have HRD : Hid (Rd .u8 w0 bv body) := hx.rd
  have HBD : Hid (By body) := hx.by_
  have HRP : Hid (Rd .i64 w0 pv ps) := hx.rp
  have HWN : Hid ((Lit.int .i64 xn).wf = true) := hx.wn
  have HBL : Hid (body.length ≤ 1048576) := hl
  have HVN : Hid (∀ i, (D.V i).length + 4096 < 274877906943) := fun i => by have := hF i; omega
  obtain ⟨ba, bl, bc, rfl⟩ : ∃ a m cap, bv = .slice a m cap := by obtain ⟨a, c, e, _⟩ := hx.rd; exact ⟨_, _, _, e⟩
  obtain ⟨pa, pl, pc, rfl⟩ : ∃ a m cap, pv = .slice a m cap := by obtain ⟨a, c, e, _⟩ := hx.rp; exact ⟨_, _, _, e⟩
  have HP0 : Hid (Dz w0 w0 w (fun _ => False) c d q r s D s D) := H
  obtain ⟨W1, hW1⟩ : ∃ W1, w.alloc (.cells #[.int .i64 kind, .int .i64 xn, .int .i64 bk, .slice ba bl bc, .slice pa pl pc] 43) = W1 := ⟨_, rfl⟩
  have BX : Hid (Box W1 w.heap.size #[.int .i64 kind, .int .i64 xn, .int .i64 bk, .slice ba bl bc, .slice pa pl pc] 43) := by rw [← hW1]; exact box_new w _ _
  have B1 : Hid (Below w.heap.size w W1) := by rw [← hW1]; exact (Below.refl _ _).alloc (Nat.le_refl _) _
  have P1 : Hid (Dz w0 W1 W1 (fun k => k = w.heap.size) c d q r s D s D) := H.enter B1.out _ (fun k e => .inr ⟨by omega, by rw [e, ← hW1]; simp⟩)
  have HPK := hideP (pickK_any kind 7 (by decide) (by decide) hx.wk W1)
  rw [hp] at HPK
  obtain ⟨q0, q1, q2, q3, q4⟩ := deed_cells BX.out
  clear hF hx hl hp H
  go_enter Try.func11, Try.ntmps11
  go_wp2_with fail
  refine HPK.out.mono ?_
  rintro e W1 ⟨rfl, rfl⟩
  clear HPK hW1
  have HA := hideP (forgetDz P1.out xn HWN.out)
  go_wp2_with fail
  refine HA.out.mono ?_
  rintro e w2 ⟨rfl, p2⟩
  have P2 := hideP p2
  clear p2 HA
  clear q0 q1 q2 q3 q4
  have BX2 : Hid (Box w2 w.heap.size #[.int .i64 kind, .int .i64 xn, .int .i64 bk, .slice ba bl bc, .slice pa pl pc] 43) := P2.out.box rfl BX.out
  obtain ⟨q0, q1, q2, q3, q4⟩ := deed_cells BX2.out
  have HB := hideP (rforgetDz P2.out xn)
  go_wp2_with fail
  refine HB.out.mono ?_
  rintro e w3 ⟨rfl, p3⟩
  have P3 := hideP p3
  clear p3 HB
  clear q0 q1 q2 q3 q4
  go_wp2_with fail
  go_ret
  exact ⟨rfl, _, _, P3.out.leave, HF.out.more⟩

set_option maxHeartbeats 2000000 in
theorem does_flush {w0 : World} {c d q r : Nat} {s : CS} {D : DS} {K : Nat} (kind xn bk : Int) (bv pv : Value) (body ps : List Int) (w : World) (H : Dz w0 w0 w (fun _ => False) c d q r s D s D) (hF : Few D K) (hK : K ≤ 1048576) (hx : KqOk w0 ⟨kind, xn, bk, bv, body, pv, ps⟩) (hl : body.length ≤ 1048576) (hp : pk kind 7 = 3) :
    Calls Try.prog 11 #[dp d, cp c, dp r, cp q, .agg #[.int .i64 kind, .int .i64 xn, .int .i64 bk, bv, pv]] w fun e w' => e = .returned (.bool true) ∧ DoesR w0 c d q r K w' := by
  have HF : Hid (Few D K) := hF
  have HRD : Hid (Rd .u8 w0 bv body) := hx.rd
  have HBD : Hid (By body) := hx.by_
  have HRP : Hid (Rd .i64 w0 pv ps) := hx.rp
  have HWN : Hid ((Lit.int .i64 xn).wf = true) := hx.wn
  have HBL : Hid (body.length ≤ 1048576) := hl
  have HVN : Hid (∀ i, (D.V i).length + 4096 < 274877906943) := fun i => by have := hF i; omega
  obtain ⟨ba, bl, bc, rfl⟩ : ∃ a m cap, bv = .slice a m cap := by obtain ⟨a, c, e, _⟩ := hx.rd; exact ⟨_, _, _, e⟩
  obtain ⟨pa, pl, pc, rfl⟩ : ∃ a m cap, pv = .slice a m cap := by obtain ⟨a, c, e, _⟩ := hx.rp; exact ⟨_, _, _, e⟩
  have HP0 : Hid (Dz w0 w0 w (fun _ => False) c d q r s D s D) := H
  obtain ⟨W1, hW1⟩ : ∃ W1, w.alloc (.cells #[.int .i64 kind, .int .i64 xn, .int .i64 bk, .slice ba bl bc, .slice pa pl pc] 43) = W1 := ⟨_, rfl⟩
  have BX : Hid (Box W1 w.heap.size #[.int .i64 kind, .int .i64 xn, .int .i64 bk, .slice ba bl bc, .slice pa pl pc] 43) := by rw [← hW1]; exact box_new w _ _
  have B1 : Hid (Below w.heap.size w W1) := by rw [← hW1]; exact (Below.refl _ _).alloc (Nat.le_refl _) _
  have P1 : Hid (Dz w0 W1 W1 (fun k => k = w.heap.size) c d q r s D s D) := H.enter B1.out _ (fun k e => .inr ⟨by omega, by rw [e, ← hW1]; simp⟩)
  have HPK := hideP (pickK_any kind 7 (by decide) (by decide) hx.wk W1)
  rw [hp] at HPK
  obtain ⟨q0, q1, q2, q3, q4⟩ := deed_cells BX.out
  clear hF hx hl hp H
  go_enter Try.func11, Try.ntmps11
  go_wp2_with fail
  refine HPK.out.mono ?_
  rintro e W1 ⟨rfl, rfl⟩
  clear HPK hW1
  have HA := hideP (rflushDz P1.out P1.out.ok HVN.out)
  go_wp2_with fail
  refine HA.out.mono ?_
  rintro e w2 ⟨rfl, p2⟩
  have P2 := hideP p2
  clear p2 HA
  clear q0 q1 q2 q3 q4
  have BX2 : Hid (Box w2 w.heap.size #[.int .i64 kind, .int .i64 xn, .int .i64 bk, .slice ba bl bc, .slice pa pl pc] 43) := P2.out.box rfl BX.out
  obtain ⟨q0, q1, q2, q3, q4⟩ := deed_cells BX2.out
  have HB := hideP (flushDz P2.out HVN.out)
  go_wp2_with fail
  refine HB.out.mono ?_
  rintro e w3 ⟨rfl, p3⟩
  have P3 := hideP p3
  clear p3 HB
  clear q0 q1 q2 q3 q4
  go_wp2_with fail
  go_ret
  exact ⟨rfl, _, _, P3.out.leave, HF.out.flush HP0.out.ok⟩

set_option maxHeartbeats 2000000 in
theorem does_power {w0 : World} {c d q r : Nat} {s : CS} {D : DS} {K : Nat} (kind xn bk : Int) (bv pv : Value) (body ps : List Int) (w : World) (H : Dz w0 w0 w (fun _ => False) c d q r s D s D) (hF : Few D K) (hK : K ≤ 1048576) (hx : KqOk w0 ⟨kind, xn, bk, bv, body, pv, ps⟩) (hl : body.length ≤ 1048576) (hp : pk kind 7 = 4) :
    Calls Try.prog 11 #[dp d, cp c, dp r, cp q, .agg #[.int .i64 kind, .int .i64 xn, .int .i64 bk, bv, pv]] w fun e w' => e = .returned (.bool true) ∧ DoesR w0 c d q r K w' := by
  have HF : Hid (Few D K) := hF
  have HRD : Hid (Rd .u8 w0 bv body) := hx.rd
  have HBD : Hid (By body) := hx.by_
  have HRP : Hid (Rd .i64 w0 pv ps) := hx.rp
  have HWN : Hid ((Lit.int .i64 xn).wf = true) := hx.wn
  have HBL : Hid (body.length ≤ 1048576) := hl
  have HVN : Hid (∀ i, (D.V i).length + 4096 < 274877906943) := fun i => by have := hF i; omega
  obtain ⟨ba, bl, bc, rfl⟩ : ∃ a m cap, bv = .slice a m cap := by obtain ⟨a, c, e, _⟩ := hx.rd; exact ⟨_, _, _, e⟩
  obtain ⟨pa, pl, pc, rfl⟩ : ∃ a m cap, pv = .slice a m cap := by obtain ⟨a, c, e, _⟩ := hx.rp; exact ⟨_, _, _, e⟩
  have HP0 : Hid (Dz w0 w0 w (fun _ => False) c d q r s D s D) := H
  obtain ⟨W1, hW1⟩ : ∃ W1, w.alloc (.cells #[.int .i64 kind, .int .i64 xn, .int .i64 bk, .slice ba bl bc, .slice pa pl pc] 43) = W1 := ⟨_, rfl⟩
  have BX : Hid (Box W1 w.heap.size #[.int .i64 kind, .int .i64 xn, .int .i64 bk, .slice ba bl bc, .slice pa pl pc] 43) := by rw [← hW1]; exact box_new w _ _
  have B1 : Hid (Below w.heap.size w W1) := by rw [← hW1]; exact (Below.refl _ _).alloc (Nat.le_refl _) _
  have P1 : Hid (Dz w0 W1 W1 (fun k => k = w.heap.size) c d q r s D s D) := H.enter B1.out _ (fun k e => .inr ⟨by omega, by rw [e, ← hW1]; simp⟩)
  have HPK := hideP (pickK_any kind 7 (by decide) (by decide) hx.wk W1)
  rw [hp] at HPK
  obtain ⟨q0, q1, q2, q3, q4⟩ := deed_cells BX.out
  clear hF hx hl hp H
  go_enter Try.func11, Try.ntmps11
  go_wp2_with fail
  refine HPK.out.mono ?_
  rintro e W1 ⟨rfl, rfl⟩
  clear HPK hW1
  have HA := hideP (powerDz P1.out (.slice pa pl pc) ps HRP.out (fun i => by have := HVN.out i; omega))
  go_wp2_with fail
  refine HA.out.mono ?_
  rintro e w2 ⟨rfl, p2⟩
  have P2 := hideP p2
  clear p2 HA
  clear q0 q1 q2 q3 q4
  have BX2 : Hid (Box w2 w.heap.size #[.int .i64 kind, .int .i64 xn, .int .i64 bk, .slice ba bl bc, .slice pa pl pc] 43) := P2.out.box rfl BX.out
  obtain ⟨q0, q1, q2, q3, q4⟩ := deed_cells BX2.out
  have HB := hideP (rpowerDz P2.out (.slice pa pl pc) ps HRP.out (fun i => by have := HVN.out i; omega))
  go_wp2_with fail
  refine HB.out.mono ?_
  rintro e w3 ⟨rfl, p3⟩
  have P3 := hideP p3
  clear p3 HB
  clear q0 q1 q2 q3 q4
  go_wp2_with fail
  go_ret
  exact ⟨rfl, _, _, P3.out.leave, HF.out.pw ps⟩

set_option maxHeartbeats 2000000 in
theorem does_sync {w0 : World} {c d q r : Nat} {s : CS} {D : DS} {K : Nat} (kind xn bk : Int) (bv pv : Value) (body ps : List Int) (w : World) (H : Dz w0 w0 w (fun _ => False) c d q r s D s D) (hF : Few D K) (hK : K ≤ 1048576) (hx : KqOk w0 ⟨kind, xn, bk, bv, body, pv, ps⟩) (hl : body.length ≤ 1048576) (hp : pk kind 7 = 6) :
    Calls Try.prog 11 #[dp d, cp c, dp r, cp q, .agg #[.int .i64 kind, .int .i64 xn, .int .i64 bk, bv, pv]] w fun e w' => e = .returned (.bool true) ∧ DoesR w0 c d q r K w' := by
  have HF : Hid (Few D K) := hF
  have HRD : Hid (Rd .u8 w0 bv body) := hx.rd
  have HBD : Hid (By body) := hx.by_
  have HRP : Hid (Rd .i64 w0 pv ps) := hx.rp
  have HWN : Hid ((Lit.int .i64 xn).wf = true) := hx.wn
  have HBL : Hid (body.length ≤ 1048576) := hl
  have HVN : Hid (∀ i, (D.V i).length + 4096 < 274877906943) := fun i => by have := hF i; omega
  obtain ⟨ba, bl, bc, rfl⟩ : ∃ a m cap, bv = .slice a m cap := by obtain ⟨a, c, e, _⟩ := hx.rd; exact ⟨_, _, _, e⟩
  obtain ⟨pa, pl, pc, rfl⟩ : ∃ a m cap, pv = .slice a m cap := by obtain ⟨a, c, e, _⟩ := hx.rp; exact ⟨_, _, _, e⟩
  have HP0 : Hid (Dz w0 w0 w (fun _ => False) c d q r s D s D) := H
  obtain ⟨W1, hW1⟩ : ∃ W1, w.alloc (.cells #[.int .i64 kind, .int .i64 xn, .int .i64 bk, .slice ba bl bc, .slice pa pl pc] 43) = W1 := ⟨_, rfl⟩
  have BX : Hid (Box W1 w.heap.size #[.int .i64 kind, .int .i64 xn, .int .i64 bk, .slice ba bl bc, .slice pa pl pc] 43) := by rw [← hW1]; exact box_new w _ _
  have B1 : Hid (Below w.heap.size w W1) := by rw [← hW1]; exact (Below.refl _ _).alloc (Nat.le_refl _) _
  have P1 : Hid (Dz w0 W1 W1 (fun k => k = w.heap.size) c d q r s D s D) := H.enter B1.out _ (fun k e => .inr ⟨by omega, by rw [e, ← hW1]; simp⟩)
  have HPK := hideP (pickK_any kind 7 (by decide) (by decide) hx.wk W1)
  rw [hp] at HPK
  obtain ⟨q0, q1, q2, q3, q4⟩ := deed_cells BX.out
  clear hF hx hl hp H
  go_enter Try.func11, Try.ntmps11
  go_wp2_with fail
  refine HPK.out.mono ?_
  rintro e W1 ⟨rfl, rfl⟩
  clear HPK hW1
  have HA := hideP (syncDz P1.out)
  go_wp2_with fail
  refine HA.out.mono ?_
  rintro e w2 ⟨rfl, p2⟩
  have P2 := hideP p2
  clear p2 HA
  clear q0 q1 q2 q3 q4
  have BX2 : Hid (Box w2 w.heap.size #[.int .i64 kind, .int .i64 xn, .int .i64 bk, .slice ba bl bc, .slice pa pl pc] 43) := P2.out.box rfl BX.out
  obtain ⟨q0, q1, q2, q3, q4⟩ := deed_cells BX2.out
  have HB := hideP (rsyncDz P2.out)
  go_wp2_with fail
  refine HB.out.mono ?_
  rintro e w3 ⟨rfl, p3⟩
  have P3 := hideP p3
  clear p3 HB
  clear q0 q1 q2 q3 q4
  go_wp2_with fail
  go_ret
  exact ⟨rfl, _, _, P3.out.leave, HF.out.fl⟩

set_option maxHeartbeats 2000000 in
theorem does_rot {w0 : World} {c d q r : Nat} {s : CS} {D : DS} {K : Nat} (kind xn bk : Int) (bv pv : Value) (body ps : List Int) (w : World) (H : Dz w0 w0 w (fun _ => False) c d q r s D s D) (hF : Few D K) (hK : K ≤ 1048576) (hx : KqOk w0 ⟨kind, xn, bk, bv, body, pv, ps⟩) (hl : body.length ≤ 1048576) (hp : pk kind 7 = 5) :
    Calls Try.prog 11 #[dp d, cp c, dp r, cp q, .agg #[.int .i64 kind, .int .i64 xn, .int .i64 bk, bv, pv]] w fun e w' => e = .returned (.bool true) ∧ DoesR w0 c d q r K w' := by
  have HF : Hid (Few D K) := hF
  have HRD : Hid (Rd .u8 w0 bv body) := hx.rd
  have HBD : Hid (By body) := hx.by_
  have HRP : Hid (Rd .i64 w0 pv ps) := hx.rp
  have HWN : Hid ((Lit.int .i64 xn).wf = true) := hx.wn
  have HBL : Hid (body.length ≤ 1048576) := hl
  have HVN : Hid (∀ i, (D.V i).length + 4096 < 274877906943) := fun i => by have := hF i; omega
  obtain ⟨ba, bl, bc, rfl⟩ : ∃ a m cap, bv = .slice a m cap := by obtain ⟨a, c, e, _⟩ := hx.rd; exact ⟨_, _, _, e⟩
  obtain ⟨pa, pl, pc, rfl⟩ : ∃ a m cap, pv = .slice a m cap := by obtain ⟨a, c, e, _⟩ := hx.rp; exact ⟨_, _, _, e⟩
  have HP0 : Hid (Dz w0 w0 w (fun _ => False) c d q r s D s D) := H
  obtain ⟨W1, hW1⟩ : ∃ W1, w.alloc (.cells #[.int .i64 kind, .int .i64 xn, .int .i64 bk, .slice ba bl bc, .slice pa pl pc] 43) = W1 := ⟨_, rfl⟩
  have BX : Hid (Box W1 w.heap.size #[.int .i64 kind, .int .i64 xn, .int .i64 bk, .slice ba bl bc, .slice pa pl pc] 43) := by rw [← hW1]; exact box_new w _ _
  have B1 : Hid (Below w.heap.size w W1) := by rw [← hW1]; exact (Below.refl _ _).alloc (Nat.le_refl _) _
  have P1 : Hid (Dz w0 W1 W1 (fun k => k = w.heap.size) c d q r s D s D) := H.enter B1.out _ (fun k e => .inr ⟨by omega, by rw [e, ← hW1]; simp⟩)
  have HPK := hideP (pickK_any kind 7 (by decide) (by decide) hx.wk W1)
  rw [hp] at HPK
  obtain ⟨q0, q1, q2, q3, q4⟩ := deed_cells BX.out
  clear hF hx hl hp H
  go_enter Try.func11, Try.ntmps11
  go_wp2_with fail
  refine HPK.out.mono ?_
  rintro e W1 ⟨rfl, rfl⟩
  clear HPK hW1
  have HPR : Hid (∀ W, Calls Try.prog 19 #[.int .i64 xn, .int .i64 20480] W fun e w' => e = .returned (.int .i64 (pk xn 20480 : Int)) ∧ w' = W) := fun W => pickK_any xn 20480 (by decide) (by decide) HWN.out W
  obtain ⟨p, hp⟩ : ∃ p, Hid (pk xn 20480 = p) := ⟨_, rfl⟩
  have hp2 : p < 20480 := by rw [← hp.out]; exact pk_lt xn (by decide)
  rw [hp.out] at HPR
  obtain ⟨b, hb⟩ : ∃ b : Nat, 102400 + (p : Int) = (b : Int) := ⟨102400 + p, by omega⟩
  have hb2 : b < 122880 := by omega
  have HBW : Hid ((Lit.int .i64 (b : Int)).wf = true) := by
    show _ = _
    simp [Lit.wf, IntKind.min, IntKind.max, IntKind.signed, IntKind.bits]
    omega
  have HA := hideP (rotDz P1.out (b : Int) HBW.out)
  obtain ⟨cd, hcd⟩ : ∃ cd, rco D (b : Int) = cd := ⟨_, rfl⟩
  rw [hcd] at HA
  clear hcd
  go_wp2_with fail
  refine (HPR.out _).mono ?_
  rintro e W2 ⟨rfl, rfl⟩
  go_wp2_with fail
  refine HA.out.mono ?_
  rintro e w2 ⟨rfl, p2⟩
  have P2 := hideP p2
  clear p2 HA
  clear q0 q1 q2 q3 q4
  have BX2 : Hid (Box w2 w.heap.size #[.int .i64 kind, .int .i64 xn, .int .i64 bk, .slice ba bl bc, .slice pa pl pc] 43) := P2.out.box rfl BX.out
  obtain ⟨q0, q1, q2, q3, q4⟩ := deed_cells BX2.out
  have HB := hideP (rrotDz P2.out (b : Int) (fun i => by have := HVN.out i; omega))
  obtain ⟨ce, hce⟩ : ∃ ce, rco D (b : Int) = ce := ⟨_, rfl⟩
  rw [hce] at HB
  clear hce
  go_wp2_with fail
  refine (HPR.out _).mono ?_
  rintro e W2 ⟨rfl, rfl⟩
  go_wp2_with fail
  refine HB.out.mono ?_
  rintro e w3 ⟨rfl, p3⟩
  have P3 := hideP p3
  clear p3 HB
  clear q0 q1 q2 q3 q4
  go_wp2_with fail
  go_ret
  exact ⟨rfl, _, _, P3.out.leave, HF.out.rot _⟩

end Go.Proofs.Ytgpaklifjonlkaa
/-
  A deed, of both: Get; what is told is written over.
-/
namespace Go.Proofs.Ytgpaklifjonlkaa
open Go.RowKit Go.Maps
set_option linter.unusedVariables false
set_option linter.unusedSimpArgs false
set_option maxRecDepth 100000

/-- Bytes that may be written, whatever they are. -/
def Wt (w : World) (v : Value) (m : Nat) : Prop := ∃ a c, v = .slice a m c ∧ m ≤ c ∧ c ≤ maxLen ∧ (m = 0 ∨ ∃ b o, a = some ⟨b, o, none⟩ ∧ ∀ i, i < m → (∃ x, w.cell? ⟨b, o + i, none⟩ = some (.int .u8 x)) ∧ w.frozen? ⟨b, o + i, none⟩ = false)
theorem Nw.wt {n1 : Nat} {w : World} {v : Value} {xs : List Int} (h : Nw n1 w v xs) : Wt w v xs.length := by
  obtain ⟨a, cap, rfl, h1, h2, _, hc⟩ := id h.rd
  refine ⟨a, cap, rfl, h1, h2, ?_⟩
  rcases hc with e | ⟨b, o, rfl, hc⟩
  · exact .inl (by rw [e]; rfl)
  · exact .inr ⟨b, o, rfl, fun i hi => ⟨⟨_, hc i hi⟩, h.fz b o _ _ rfl i hi⟩⟩
theorem Wt.tch {S : Nat → Prop} {w w' : World} {v : Value} {m : Nat} (h : Wt w v m) (ht : Tch S w w') (hs : ∀ k, v.ownBlock = some k → m ≠ 0 → ¬ S k) : Wt w' v m := by
  obtain ⟨a, cap, rfl, h1, h2, hc⟩ := h
  refine ⟨a, cap, rfl, h1, h2, ?_⟩
  rcases hc with e | ⟨b, o, rfl, hc⟩
  · exact .inl e
  · refine .inr ⟨b, o, rfl, fun i hi => ?_⟩
    obtain ⟨⟨x, h3⟩, h4⟩ := hc i hi
    have hl := World.block_lt_of_cell? w ⟨b, o + i, none⟩ h3
    have hn := hs b rfl (by omega)
    exact ⟨⟨x, by rw [ht.cell (p := ⟨b, o + i, none⟩) hl hn]; exact h3⟩, by rw [ht.frozen (p := ⟨b, o + i, none⟩) hl hn]; exact h4⟩
theorem Wt.at_ {w : World} {v : Value} {m : Nat} (h : Wt w v m) {j : Nat} (hj : j < m) : ∃ b o c x, v = .slice (some ⟨b, o, none⟩) m c ∧ m ≤ c ∧ c ≤ 9223372036854775807 ∧ w.cell? ⟨b, o + j, none⟩ = some (.int .u8 x) ∧ w.frozen? ⟨b, o + j, none⟩ = false ∧ ∀ y, Wt (w.setCell ⟨b, o + j, none⟩ (.int .u8 y)) v m := by
  obtain ⟨a, cap, rfl, h1, h2, hc⟩ := h
  rcases hc with e | ⟨b, o, rfl, hc⟩
  · omega
  · obtain ⟨⟨x, h3⟩, h4⟩ := hc j hj
    refine ⟨b, o, cap, x, rfl, h1, by unfold maxLen at h2; exact h2, h3, h4, fun y => ⟨_, cap, rfl, h1, h2, .inr ⟨b, o, rfl, fun i hi => ?_⟩⟩⟩
    obtain ⟨⟨z, h5⟩, h6⟩ := hc i hi
    refine ⟨?_, by rw [World.frozen?_setCell]; exact h6⟩
    by_cases e : i = j
    · subst e
      exact ⟨y, World.cell?_setCell_same _ _ _ h3⟩
    · exact ⟨z, by rw [World.cell?_setCell_other (h := by simp only [ne_eq, Addr.mk.injEq, not_and]; intro _ h; omega)]; exact h5⟩
theorem Wt.len {w : World} {v : Value} {m : Nat} (h : Wt w v m) : ∃ a c, v = .slice a m c ∧ m ≤ c ∧ c ≤ 9223372036854775807 := by
  obtain ⟨a, cap, rfl, h1, h2, hc⟩ := h
  exact ⟨a, cap, rfl, h1, by unfold maxLen at h2; exact h2⟩

set_option maxHeartbeats 2000000 in
theorem does_get {w0 : World} {c d q r : Nat} {s : CS} {D : DS} {K : Nat} (kind xn bk : Int) (bv pv : Value) (body ps : List Int) (w : World) (H : Dz w0 w0 w (fun _ => False) c d q r s D s D) (hF : Few D K) (hK : K ≤ 1048576) (hx : KqOk w0 ⟨kind, xn, bk, bv, body, pv, ps⟩) (hl : body.length ≤ 1048576) (hp : pk kind 7 = 0) :
    Calls Try.prog 11 #[dp d, cp c, dp r, cp q, .agg #[.int .i64 kind, .int .i64 xn, .int .i64 bk, bv, pv]] w fun e w' => e = .returned (.bool true) ∧ DoesR w0 c d q r K w' := by
  have HF : Hid (Few D K) := hF
  have HRD : Hid (Rd .u8 w0 bv body) := hx.rd
  have HBD : Hid (By body) := hx.by_
  have HRP : Hid (Rd .i64 w0 pv ps) := hx.rp
  have HWN : Hid ((Lit.int .i64 xn).wf = true) := hx.wn
  have HBL : Hid (body.length ≤ 1048576) := hl
  have HVN : Hid (∀ i, (D.V i).length + 4096 < 274877906943) := fun i => by have := hF i; omega
  obtain ⟨ba, bl, bc, rfl⟩ : ∃ a m cap, bv = .slice a m cap := by obtain ⟨a, c, e, _⟩ := hx.rd; exact ⟨_, _, _, e⟩
  obtain ⟨pa, pl, pc, rfl⟩ : ∃ a m cap, pv = .slice a m cap := by obtain ⟨a, c, e, _⟩ := hx.rp; exact ⟨_, _, _, e⟩
  have HP0 : Hid (Dz w0 w0 w (fun _ => False) c d q r s D s D) := H
  obtain ⟨W1, hW1⟩ : ∃ W1, w.alloc (.cells #[.int .i64 kind, .int .i64 xn, .int .i64 bk, .slice ba bl bc, .slice pa pl pc] 43) = W1 := ⟨_, rfl⟩
  have BX : Hid (Box W1 w.heap.size #[.int .i64 kind, .int .i64 xn, .int .i64 bk, .slice ba bl bc, .slice pa pl pc] 43) := by rw [← hW1]; exact box_new w _ _
  have B1 : Hid (Below w.heap.size w W1) := by rw [← hW1]; exact (Below.refl _ _).alloc (Nat.le_refl _) _
  have P1 : Hid (Dz w0 W1 W1 (fun k => k = w.heap.size) c d q r s D s D) := H.enter B1.out _ (fun k e => .inr ⟨by omega, by rw [e, ← hW1]; simp⟩)
  have HPK := hideP (pickK_any kind 7 (by decide) (by decide) hx.wk W1)
  rw [hp] at HPK
  obtain ⟨q0, q1, q2, q3, q4⟩ := deed_cells BX.out
  clear hF hx hl hp H
  go_enter Try.func11, Try.ntmps11
  go_wp2_with fail
  refine HPK.out.mono ?_
  rintro e W1 ⟨rfl, rfl⟩
  clear HPK hW1
  obtain ⟨kb, hkb⟩ : ∃ kb, (s.getB D xn).1 = kb := ⟨_, rfl⟩
  obtain ⟨ys, hys⟩ : ∃ ys, (s.getB D xn).2 = ys := ⟨_, rfl⟩
  obtain ⟨ec, hec⟩ : ∃ ec, s.getE D xn = ec := ⟨_, rfl⟩
  obtain ⟨s2, hs2⟩ : ∃ s2, s.getS D xn = s2 := ⟨_, rfl⟩
  have HLT : Hid (Hid (s.getB D xn = (kb, ys)) ∧ s.getE D xn = ec ∧ s.getS D xn = s2) := ⟨by show _ = _; rw [← hkb, ← hys], hec, hs2⟩
  have HA := hideP (getDz P1.out xn)
  rw [hkb, hys, hec, hs2] at HA
  have HBY : Hid (∀ i, i < 60 → By (D.has i)) := fun i hi => (HP0.out.has_ok hi).2
  unfold blk at HA
  clear hkb hys hec hs2
  go_wp2_with fail
  refine HA.out.mono ?_
  rintro e w2 ⟨u, rfl, hn2, p2a, p2⟩
  obtain ⟨m, hm⟩ : ∃ m, ys.length = m := ⟨_, rfl⟩
  have hm0 : m ≠ 0 → ys ≠ [] := fun h0 e => h0 (by rw [← hm, e]; rfl)
  have P2 := hideP p2
  have N2 := hideP hn2
  have BX2 : Hid (Box w2 w.heap.size #[.int .i64 kind, .int .i64 xn, .int .i64 bk, .slice ba bl bc, .slice pa pl pc] 43) := p2a.box rfl BX.out
  obtain ⟨W3, hW3⟩ : ∃ W3, w2.alloc (.cells #[.int .i64 kb, u] 40) = W3 := ⟨_, rfl⟩
  have B3 : Hid (Below w2.heap.size w2 W3) := by rw [← hW3]; exact (Below.refl _ _).alloc (Nat.le_refl _) _
  obtain ⟨ga, hga⟩ : ∃ ga, w2.heap.size = ga := ⟨_, rfl⟩
  have HGA : Hid (w2.heap.size = ga) := hga
  have BA3 : Hid (Box W3 ga #[.int .i64 kb, u] 40) := by rw [← hW3, ← hga]; exact box_new w2 _ _
  obtain ⟨Z, hZ⟩ : ∃ Z : Nat → Prop, Z = fun k => (k = w.heap.size ∨ (u.ownBlock = some k ∧ ys ≠ [])) ∨ k = ga := ⟨_, rfl⟩
  have HZ : Hid (Z = fun k => (k = w.heap.size ∨ (u.ownBlock = some k ∧ ys ≠ [])) ∨ k = ga) := hZ
  have P3 : Hid (Dz w0 W3 W3 Z c d q r s2 D s D) := by
    refine P2.out.enter B3.out _ (fun k e => ?_)
    rw [hZ] at e
    rcases e with e | e
    · exact .inl e
    · exact .inr ⟨by omega, by rw [e, ← hW3, ← hga]; simp⟩
  have BX3 : Hid (Box W3 w.heap.size #[.int .i64 kind, .int .i64 xn, .int .i64 bk, .slice ba bl bc, .slice pa pl pc] 43) := by
    show _ = _
    rw [B3.out.block _ (Array.getElem?_eq_some_iff.1 BX2.out).1]
    exact BX2.out
  have N3 : Hid (Nw W1.heap.size W3 u ys) := hn2.below B3.out
  have HNZ : Hid (∀ j, u.ownBlock = some j → W1.heap.size ≤ j ∧ (m ≠ 0 → Z j ∧ j < ga)) := fun j hj => ⟨hn2.new j hj, fun h0 => ⟨by rw [hZ]; exact .inl (.inr ⟨hj, hm0 h0⟩), by rw [← hga]; exact hn2.rd.blk_lt (hm0 h0) hj⟩⟩
  have HW01 : Hid (w0.heap.size ≤ W1.heap.size) := P1.out.below0.size
  obtain ⟨ua, uc, rfl⟩ : ∃ a cap, u = .slice a m cap := by obtain ⟨a, c, e, _⟩ := hn2.rd; rw [hm] at e; exact ⟨_, _, e⟩
  have HM : Hid (ys.length = m) := hm
  have HW3 : Hid (w2.alloc (.cells #[.int .i64 kb, .slice ua m uc] 40) = W3) := hW3
  have HB := hideP (rgetDz P3.out HBY.out xn)
  rw [HLT.out.1.out, HLT.out.2.1, HLT.out.2.2] at HB
  have x1 := (deed_cells BX3.out).2.1
  unfold blk at HB
  clear q0 q1 q2 q3 q4 hn2 p2a p2 HA hga hZ hm hW3
  have x2 : (w2.alloc (.cells #[.int .i64 kb, .slice ua m uc] 40)).cell? ⟨w.heap.size, 1, none⟩ = some (.int .i64 xn) := by rw [HW3.out]; exact x1
  clear x1
  go_wp2_with fail
  rw [HW3.out]
  rw [HGA.out]
  refine HB.out.mono ?_
  rintro e w4 ⟨v, rfl, hv4, p4⟩
  have P4 := hideP p4
  have BA4 : Hid (Box w4 ga #[.int .i64 kb, .slice ua m uc] 40) := p4.box (by rw [HZ.out]; exact .inr rfl) BA3.out
  have W4t : Hid (Wt w4 (.slice ua m uc) m ∧ Rd .u8 w4 (.slice ua m uc) ys) := by
    have h1 := N3.out.wt
    rw [HM.out] at h1
    exact ⟨h1.tch p4.tz (fun k hk h0 e => e ((HNZ.out k hk).2 h0).1), p4.rd N3.out.rd (fun j hj h0 => ((HNZ.out j hj).2 (fun e => h0 (List.eq_nil_of_length_eq_zero (by rw [HM.out]; exact e)))).1)⟩
  have V4 : Hid (Rd .u8 w4 v ys) := hv4
  obtain ⟨va, vm, vc, rfl⟩ : ∃ a m cap, v = .slice a m cap := by obtain ⟨a, c, e, _⟩ := hv4; exact ⟨_, _, _, e⟩
  obtain ⟨W5, hW5⟩ : ∃ W5, w4.alloc (.cells #[.int .i64 kb, .slice va vm vc] 40) = W5 := ⟨_, rfl⟩
  have HW5 : Hid (w4.alloc (.cells #[.int .i64 kb, .slice va vm vc] 40) = W5) := hW5
  have B5 : Hid (Below w4.heap.size w4 W5) := by rw [← hW5]; exact (Below.refl _ _).alloc (Nat.le_refl _) _
  have BB5 : Hid (Box W5 w4.heap.size #[.int .i64 kb, .slice va vm vc] 40) := by rw [← hW5]; exact box_new w4 _ _
  have BA5 : Hid (Box W5 ga #[.int .i64 kb, .slice ua m uc] 40) := by
    show _ = _
    rw [B5.out.block _ (Array.getElem?_eq_some_iff.1 BA4.out).1]
    exact BA4.out
  have HSM := hideP (same2_any kb kb (.slice ua m uc) (.slice va vm vc) ys ys W5 (W4t.out.2.below B5.out) (V4.out.below B5.out))
  simp only [decide_true, Bool.and_self] at HSM
  unfold blk at HSM
  have a0 := BA5.out.cell 0
  have a1 := BA5.out.cell 1
  have b0 := BB5.out.cell 0
  have b1 := BB5.out.cell 1
  simp only [List.getElem?_toArray, List.getElem?_cons_zero, List.getElem?_cons_succ] at a0 a1 b0 b1
  have a0' : (w4.alloc (.cells #[.int .i64 kb, .slice va vm vc] 40)).cell? ⟨ga, 0, none⟩ = some (.int .i64 kb) := by rw [hW5]; exact a0
  have a1' : (w4.alloc (.cells #[.int .i64 kb, .slice va vm vc] 40)).cell? ⟨ga, 1, none⟩ = some (.slice ua m uc) := by rw [hW5]; exact a1
  have b0' : (w4.alloc (.cells #[.int .i64 kb, .slice va vm vc] 40)).cell? ⟨w4.heap.size, 0, none⟩ = some (.int .i64 kb) := by rw [hW5]; exact b0
  have b1' : (w4.alloc (.cells #[.int .i64 kb, .slice va vm vc] 40)).cell? ⟨w4.heap.size, 1, none⟩ = some (.slice va vm vc) := by rw [hW5]; exact b1
  clear a0 a1 b0 b1 hW5 hv4 p4 HB x2 HW3 P3 BA3 N3 BX3 P2 N2 BX2
  go_wp2_with fail
  rw [HW5.out]
  refine HSM.out.mono ?_
  rintro e w6 ⟨rfl, hb6⟩
  have P6 : Hid (Dz w0 w6 w6 Z c d q r s2 D s2 D) := P4.out.enter (B5.out.trans (hb6.mono B5.out.size)) _ (fun k e => .inl e)
  have BA6 : Hid (Box w6 ga #[.int .i64 kb, .slice ua m uc] 40) := by
    show _ = _
    rw [hb6.block _ (Array.getElem?_eq_some_iff.1 BA5.out).1]
    exact BA5.out
  have W6t : Hid (Wt w6 (.slice ua m uc) m) := W4t.out.1.tch (Tch.of_below (S := fun _ => False) (B5.out.trans (hb6.mono B5.out.size))) (fun _ _ _ e => e)
  obtain ⟨_, _, eu, hmc, hc9⟩ := W6t.out.len
  simp only [Value.slice.injEq, true_and] at eu
  obtain ⟨rfl, rfl⟩ := eu
  clear hb6 HSM a0' a1' b0' b1' HW5 P4 BA4 W4t V4 B5 BB5 BA5
  go_wp2_with fail
  go_loopw [16] (fun iv wr => ∃ (k : Nat), k ≤ m ∧ iv = .int .i64 k ∧ Hid (Dz w0 wr wr Z c d q r s2 D s2 D) ∧ Hid (Box wr ga #[.int .i64 kb, .slice ua m uc] 40) ∧ Hid (Wt wr (.slice ua m uc) m)) (fun iv _ => m - (intOf iv).toNat)
  case atStart => exact ⟨0, Nat.zero_le _, rfl, P6, BA6, W6t⟩
  case round =>
    obtain ⟨k, hk, rfl, PK, BK, WK⟩ := hrel
    have a1 := BK.out.cell 1
    simp only [List.getElem?_toArray, List.getElem?_cons_zero, List.getElem?_cons_succ] at a1
    clear P6 BA6 W6t
    by_cases hkm : k < m
    · have hki : (k : Int) < (m : Int) := by omega
      obtain ⟨ub, uo, uc', x, eu, _, _, hcx, hfx, hset⟩ := WK.out.at_ hkm
      simp only [Value.slice.injEq, true_and] at eu
      obtain ⟨rfl, rfl⟩ := eu
      obtain ⟨WN, hWN⟩ : ∃ WN, wr.setCell ⟨ub, uo + k, none⟩ (.int .u8 99) = WN := ⟨_, rfl⟩
      have hz := HNZ.out ub rfl
      have TN : Tch (fun j => j = ub) wr WN := by rw [← hWN]; exact tch_set wr ub (uo + k) _
      have PN : Hid (Dz w0 WN WN Z c d q r s2 D s2 D) := PK.out.side TN (fun j e => by rw [e]; exact (hz.2 (by omega)).1) (fun j e => by have := HW01.out; have := hz.1; omega) _ (fun j e => .inl e)
      have WK2 : Hid (Wt WN (.slice (some ⟨ub, uo, none⟩) m uc) m) := by rw [← hWN]; exact hset 99
      have BN : Hid (Box WN ga #[.int .i64 kb, .slice (some ⟨ub, uo, none⟩) m uc] 40) := by
        show _ = _
        rw [TN.block _ (Array.getElem?_eq_some_iff.1 BK.out).1 (fun e => by have := (hz.2 (by omega)).2; omega)]
        exact BK.out
      clear hset TN hz PK BK WK
      go_wp2_with fail
      go_roundw
      case rel => exact ⟨k + 1, by omega, by first | rfl | go_num, PN, BN, WK2⟩
      case measure => simp [intOf]; omega
    · have hki : ¬ (k : Int) < (m : Int) := by omega
      have hkd : decide (k < m) = false := by rw [decide_eq_false_iff_not]; omega
      go_wp2_with fail
      go_ret
      exact ⟨rfl, _, _, PK.out.leave, HF.out.more⟩
end Go.Proofs.Ytgpaklifjonlkaa
