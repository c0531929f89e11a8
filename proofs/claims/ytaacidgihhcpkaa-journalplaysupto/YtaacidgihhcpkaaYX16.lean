import Derived.Test.YtaacidgihhcpkaaYX12
import Derived.Test.YtaacidgihhcpkaaYX13
import Derived.Test.YtaacidgihhcpkaaYX14
import Derived.Test.YtaacidgihhcpkaaYX15
import Derived.Test.YtaacidgihhcpkaaYX05
/-
  The program's Append.
-/
namespace Go.Proofs.Ytaacidgihhcpkaa
open Go.RowKit Go.Maps Pl
set_option linter.unusedVariables false
set_option linter.unusedSimpArgs false
set_option maxRecDepth 100000

/-- What an Append tells, and leaves. -/
def AppR (S : Nat → Prop) (d : Nat) (s : DS) (j g m a : Nat) (ys : List Int) (w : World) (e : Ending) (w' : World) : Prop :=
  (npc ys.length ≤ 50 - a ∧ e = .returned (.int .i64 0) ∧ ∃ S', Dk S' w' d (jap s g (m + 1) a ys (npc ys.length)) ∧ Jb w' j d g (m + 1) (a + npc ys.length) ∧ Tch (fun k => S k ∨ k = j) w w' ∧ ∀ k, S' k → S k ∨ w.heap.size ≤ k) ∨
  (¬ npc ys.length ≤ 50 - a ∧ e = .returned (.int .i64 11) ∧ w' = w)

theorem step_allocF {a : Act} {W : World} {Q : Exit → Act → World → Prop} {o' : Oper} {K : Act → World → Prop} (ho : o'.op = .alloc 79)
    (h : K (a.put o'.dst (.pointer (some ⟨W.heap.size, 0, none⟩))) (W.alloc (.cells (bcs zz).toArray 79))) : Oper.wp Try.prog o' a W K Q := by
  obtain ⟨hv, hi⟩ := zero_of_info info_frmU
  unfold Oper.wp
  go_simp
  exact h

set_option maxHeartbeats 1000000 in
theorem append_any {S : Nat → Prop} {d : Nat} {s : DS} (j g m a : Nat) (v : Value) (ys : List Int) (w : World) (h : Dk S w d s) (hj : Jb w j d g m a) (hSj : ¬ S j) (hr : Rd .u8 w v ys) (hb : By ys) (hv : ∀ k, v.ownBlock = some k → ys ≠ [] → ¬ S k)
    (h50 : 50 ≤ s.L.length) (ha2 : 2 ≤ a) (ha : a ≤ 50) (hg : g < 4294967296) (hm : m < 4294967000) (hV : ∀ i, (s.V i).length < 274877906000) :
    Calls Try.prog 13 #[.pointer (some ⟨j, 0, none⟩), v] w fun e w' => AppR S d s j g m a ys w e w' := by
  obtain ⟨da, cap, rfl, hc1, hc2, _⟩ := id hr
  have HP := hideP (piecesOf_any ys.length w (Nat.le_trans hc1 hc2))
  have HRM := hideP (room_any j d g m a w hj ha)
  have HR : Hid (Rd .u8 w (.slice da ys.length cap) ys) := hr
  have HY : Hid (By ys) := hb
  have HD : Hid (Dk S w d s) := h
  have HJ : Hid (Jb w j d g m a) := hj
  have HSJ : Hid (¬ S j) := hSj
  have HV := hideP hv
  have H50 : Hid (50 ≤ s.L.length) := h50
  have HVN := hideP hV
  have HI : Hid ((Try.prog.info? 79).map (·.size) = some 256) := (zero_of_info info_frmU).2
  have HSLF := slice_frmU
  have HNL := hideP (fun (i : Nat) (hi : i < npc ys.length) => npc_le hi)
  have hjl : j < w.heap.size := hj.lt
  obtain ⟨L, hL⟩ : ∃ L, Hid (ys.length = L) := ⟨_, rfl⟩
  obtain ⟨M, hM⟩ : ∃ M, Hid (npc ys.length = M) := ⟨_, rfl⟩
  have hM1 : 1 ≤ M := by rw [← hM.out]; exact npc_pos _
  rw [hM.out] at HP HNL
  rw [hL.out] at HP HR HV HNL hc1 ⊢
  have hcl : cap ≤ 9223372036854775807 := by unfold maxLen at hc2; omega
  have hL63 : L ≤ 9223372036854775807 := by omega
  have HM3 : Hid (M ≤ L + 1) := by
    show _ ≤ _
    rw [← hM.out, ← hL.out]; unfold npc; split <;> omega
  clear h hj hSj hr hb hv h50 hV hc2
  by_cases hbig : (50 - a : Nat) < M
  · have hbI : ((50 - a : Nat) : Int) < (M : Int) := by omega
    have HN : Hid (¬ npc ys.length ≤ 50 - a) := by show ¬ _; rw [hM.out]; omega
    obtain ⟨R, hR⟩ : ∃ R, Hid (50 - a = R) := ⟨_, rfl⟩
    rw [hR.out] at HRM hbI hbig
    go_enter Try.func13, Try.ntmps13
    go_wp2_with fail
    refine HP.out.mono ?_
    rintro e w' ⟨rfl, rfl⟩
    go_wp2_with fail
    refine HRM.out.mono ?_
    rintro e w'' ⟨rfl, rfl⟩
    go_wp2_with fail
    go_ret
    exact .inr ⟨HN.out, rfl, rfl⟩
  · have hbI : ¬ ((50 - a : Nat) : Int) < (M : Int) := by omega
    have HN : Hid (npc ys.length ≤ 50 - a) := by show _ ≤ _; rw [hM.out]; omega
    have hMa : a + M ≤ 50 := by omega
    obtain ⟨R, hR⟩ : ∃ R, Hid (50 - a = R) := ⟨_, rfl⟩
    rw [hR.out] at HRM hbI hbig
    go_enter Try.func13, Try.ntmps13
    go_wp2_with fail
    refine HP.out.mono ?_
    rintro e w' ⟨rfl, rfl⟩
    go_wp2_with fail
    refine HRM.out.mono ?_
    rintro e w ⟨rfl, rfl⟩
    clear HP HRM
    go_wp2_with fail
    go_loopw [20] (fun i wr => ∃ k : Nat, k ≤ M ∧ i = .int .i64 k ∧ Hid (DkTo S w wr d (jap s g (m + 1) a ys k))) (fun i _ => M - (intOf i).toNat)
    case atStart => exact ⟨0, Nat.zero_le _, rfl, HD.out.to⟩
    case round =>
      obtain ⟨k, hk, rfl, DT⟩ := hrel
      by_cases hlt : k < M
      · have hlt1 : (k : Int) < (M : Int) := by omega
        obtain ⟨S1, D1, T1, N1⟩ := DT.out
        have J1 : Hid (Jb wr j d g m a) := HJ.out.tch T1 HSJ.out
        have R1 : Hid (Rd .u8 wr (.slice da L cap) ys) := HR.out.tch0 T1 HV.out
        have HD1 : Hid (Dk S1 wr d (jap s g (m + 1) a ys k)) := D1
        have HT1 : Hid (Tch S w wr) := T1
        have HN1 := hideP N1
        obtain ⟨F, hF⟩ : ∃ F, 232 * k = F := ⟨_, rfl⟩
        have hF1 : (k : Int) * 232 = (F : Int) := by omega
        have hFL : F ≤ L := by have := HNL.out k hlt; omega
        have HFK : Hid (F = 232 * k) := hF.symm
        have j0 : wr.drew.cell? ⟨j, 0, none⟩ = some (.pointer (some ⟨d, 0, none⟩)) := J1.out.cell (i := 0) rfl
        have j1 : wr.drew.cell? ⟨j, 1, none⟩ = some (.int .i64 (g : Int)) := J1.out.cell (i := 1) rfl
        have j2 : wr.drew.cell? ⟨j, 2, none⟩ = some (.int .i64 (m : Int)) := J1.out.cell (i := 2) rfl
        have hm1 : (m : Int) + 1 < 4294967296 := by omega
        have hjw : j < wr.heap.size := J1.out.lt
        have hjn : j ≠ wr.heap.size := Nat.ne_of_lt hjw
        have jal1 : ∀ cs, (wr.alloc (.cells cs 77)).drew.cell? ⟨j, 1, none⟩ = some (.int .i64 (g : Int)) := fun cs => (J1.out.below ((Below.refl _ _).alloc (Nat.le_refl _) _)).cell (i := 1) rfl
        have jal2 : ∀ cs, (wr.alloc (.cells cs 77)).drew.cell? ⟨j, 2, none⟩ = some (.int .i64 (m : Int)) := fun cs => (J1.out.below ((Below.refl _ _).alloc (Nat.le_refl _) _)).cell (i := 2) rfl
        have hwm : IntKind.i64.wrap ((m : Int) + 1) = ((m + 1 : Nat) : Int) := by rw [IntKind.wrap_i64]; omega
        have HWM : Hid (IntKind.i64.wrap ((m : Int) + 1) = ((m + 1 : Nat) : Int)) := hwm
        clear hwm
        have HPK : Hid (OkR (pcA g (m + 1) ys k)) := pcA_ok (by rw [hM.out]; exact hlt) (by rw [hM.out]; omega) (by omega) (by omega)
        have HPB : Hid (By (pcA g (m + 1) ys k).ys) := chk_by HY.out k
        have HJL : Hid ((jsec (pcA g (m + 1) ys k)).length = 256) := jsec_len HPK.out.len
        have HJB : Hid (By (jsec (pcA g (m + 1) ys k))) := jsec_by HPB.out
        have hkM : k < 50 := by omega
        clear D1 T1 N1 DT hF
        obtain ⟨T, hT⟩ : ∃ T, min (F + 232) L = T := ⟨_, rfl⟩
        have HTI : Hid (min ((F : Int) + 232) (L : Int) = (T : Int)) := by show _ = _; omega
        have hT1 : F ≤ T := by omega
        have hT2 : T ≤ L := by omega
        have HTT : Hid (T = min (F + 232) L) := hT.symm
        clear hT
        have HSR : Hid (Rd .u8 wr (sliced da F T cap 1) (chk ys k)) := by
          have := rd_sliced (a := da) (cap := cap) (xs := ys) (by rw [hL.out]; exact R1.out) F T (by omega) (by rw [hL.out]; omega)
          have e : (ys.drop F).take (T - F) = chk ys k := by
            unfold chk
            rw [← HFK.out, HTT.out]
            by_cases c : F + 232 ≤ L
            · rw [show min (F + 232) L - F = 232 by omega]
            · rw [List.take_of_length_le (i := 232) (by rw [List.length_drop, hL.out]; omega), List.take_of_length_le (by rw [List.length_drop, hL.out]; omega)]
          rw [e] at this
          exact this
        have hsl : ∀ W, (Instr.sliceAt 36 (.slice da L cap) (some (.int .i64 (F : Int))) (some (.int .i64 (T : Int))) none).run Try.prog W = .ok (sliced da F T cap 1) W := fun W => by
          rw [run_sliceAt_slice _ _ _ _ _ _ under8, run_slice_lh _ _ _ _ _ under8 _ _ _ _ (by omega) (by omega) (by omega), size8]
          simp [Result.andThen]
        obtain ⟨ca, cc, hcs, hc3, hc4, _⟩ := id HSR.out
        have HSR2 := HSR
        rw [hcs] at hsl HSR2
        obtain ⟨l, hl⟩ : ∃ l, Hid ((chk ys k).length = l) := ⟨_, rfl⟩
        rw [hl.out] at hsl HSR2
        clear hcs hc3 hc4 HSR
        go_wp2_with fail
        go_region_held3 (fun w' => w'.cell? ⟨j, 1, none⟩ = some (.int .i64 (g : Int)) ∧ w'.cell? ⟨j, 2, none⟩ = some (.int .i64 (m : Int))) (first | go_keep | exact ⟨jal1 _, jal2 _⟩) (fail)
        rw [HWM.out]
        obtain ⟨q, hq⟩ : ∃ q, Hid (wr.heap.size = q) := ⟨_, rfl⟩
        obtain ⟨W2, hW2⟩ : ∃ W2, Hid ((wr.alloc (.cells #[.int .i64 (k : Int), .int .i64 (M : Int), .int .i64 (g : Int), .int .i64 ((m + 1 : Nat) : Int)] 77)).drew = W2) := ⟨_, rfl⟩
        have b2 : Below wr.heap.size wr W2 := by rw [← hW2.out]; exact ((Below.refl _ _).alloc (Nat.le_refl _) _).drew
        have Q2 : Hid (Bo W2 q 77 [.int .i64 (k : Int), .int .i64 (M : Int), .int .i64 (g : Int), .int .i64 ((m + 1 : Nat) : Int)]) := by rw [← hW2.out, ← hq.out]; exact bo_new wr _ _
        have D2 := hideP (HD1.out.below b2)
        have T2 : Hid (Tch S w W2) := HT1.out.trans (Tch.of_below (S := fun _ => False) b2) (fun _ _ e => e.elim)
        have J2 := hideP (J1.out.below b2)
        have R2 : Hid (Rd .u8 W2 (.slice ca l cc) (chk ys k)) := HSR2.out.below b2
        have HN2 : Hid (∀ i, S1 i → S i ∨ w.heap.size ≤ i) := HN1
        have HWS : Hid (w.heap.size ≤ wr.heap.size) := HT1.out.size
        have HWQ : Hid (∀ i, S1 i → i < q) := fun i hi => by rw [← hq.out]; exact HD1.out.slt i hi
        have HWQ2 : Hid (w.heap.size ≤ q) := by show _ ≤ _; rw [← hq.out]; exact HT1.out.size
        rw [HTI.out]
        rw [hq.out, hW2.out]
        have hum := Try.underlying77
        have hszm : (Try.prog.info? 77).map (·.size) = some [Value.int .i64 (k : Int), .int .i64 (M : Int), .int .i64 (g : Int), .int .i64 ((m + 1 : Nat) : Int)].length := by kernel_rfl
        have HSO : Hid (∀ W, Rd .u8 W (.slice ca l cc) (chk ys k) → Calls Try.prog 36 #[.agg #[.int .i64 (k : Int), .int .i64 (M : Int), .int .i64 (g : Int), .int .i64 ((m + 1 : Nat) : Int), .slice ca l cc]] W fun e w' => e = .returned (.agg (bcs (jsec (pcA g (m + 1) ys k))).toArray) ∧ Below W.heap.size W w') := fun W h => by
          have := sectorOfJ_any (pcA g (m + 1) ys k) _ W h HPB.out HPK.out
          unfold pcv pcA at this
          rw [hM.out] at this
          unfold pcA
          rw [hM.out]
          exact this
        clear b2 HD1 HT1 J1 R1 HN1 jal1 jal2 j0 j1 j2 hjw hjn hW2
        go_wp2_with fail
        have hS : W2.drew.rangeAt q 0 [Value.int .i64 (k : Int), .int .i64 (M : Int), .int .i64 (g : Int), .int .i64 ((m + 1 : Nat) : Int)] := Q2.out.range
        refine wp_region_held (S := fun w' => w'.rangeAt q 0 [Value.int .i64 (k : Int), .int .i64 (M : Int), .int .i64 (g : Int), .int .i64 ((m + 1 : Nat) : Int)]) (by kernel_rfl) ?_
        refine takeArr 0 (some 42) 77 (.tmp 9) q 0 [Value.int .i64 (k : Int), .int .i64 (M : Int), .int .i64 (g : Int), .int .i64 ((m + 1 : Nat) : Int)] _ rfl (by kernel_rfl) (by kernel_rfl) (by kernel_rfl) (fun _ _ _ h => h) rfl (fun w' h => h) hum rfl hszm hS ?_
        simp only [Act.put, List.setIfInBounds_toArray, List.set_cons_zero, List.set_cons_succ]
        refine takeT 1 (some 43) (.move (.tmp 1)) (.slice da L cap) rfl (by kernel_rfl) (by kernel_rfl) (by kernel_rfl) (fun _ _ _ h => h) ?hy hS ?_
        case hy =>
          rintro o ho w' hS1
          go_simp
        simp only [Act.put, List.setIfInBounds_toArray, List.set_cons_zero, List.set_cons_succ]
        refine takeT 2 (some 44) (.move (.tmp 7)) (.int .i64 (F : Int)) rfl (by kernel_rfl) (by kernel_rfl) (by kernel_rfl) (fun _ _ _ h => h) ?hy hS ?_
        case hy =>
          rintro o ho w' hS1
          go_simp
        simp only [Act.put, List.setIfInBounds_toArray, List.set_cons_zero, List.set_cons_succ]
        refine takeT 3 (some 45) (.move (.tmp 8)) (.int .i64 (T : Int)) rfl (by kernel_rfl) (by kernel_rfl) (by kernel_rfl) (fun _ _ _ h => h) ?hy hS ?_
        case hy =>
          rintro o ho w' hS1
          go_simp
        simp only [Act.put, List.setIfInBounds_toArray, List.set_cons_zero, List.set_cons_succ]
        refine takeT 4 (some 46) (.slice 36 (.tmp 43) (some (.tmp 44)) (some (.tmp 45)) none) (.slice ca l cc) rfl (by kernel_rfl) (by kernel_rfl) (by kernel_rfl) (fun _ _ _ h => h) ?hy hS ?_
        case hy =>
          rintro o ho w' hS1
          go_simp
        simp only [Act.put, List.setIfInBounds_toArray, List.set_cons_zero, List.set_cons_succ]
        refine takeT 5 (some 47) (.build 82 #[(0, .tmp 42), (1, .tmp 46)]) (.agg #[.int .i64 (k : Int), .int .i64 (M : Int), .int .i64 (g : Int), .int .i64 ((m + 1 : Nat) : Int), .slice ca l cc]) rfl (by kernel_rfl) (by kernel_rfl) (by kernel_rfl) (fun _ _ _ h => h) ?hy hS ?_
        case hy =>
          rintro o ho w' hS1
          go_simp
        simp only [Act.put, List.setIfInBounds_toArray, List.set_cons_zero, List.set_cons_succ]
        obtain ⟨W2d, hW2d⟩ : ∃ W2d, Hid (W2.drew = W2d) := ⟨_, rfl⟩
        have bd : Below W2.heap.size W2 W2d := by rw [← hW2d.out]; exact (Below.refl _ _).drew
        have Q2d := hideP (Q2.out.below bd)
        have D2d := hideP (D2.out.below bd)
        have T2d : Hid (Tch S w W2d) := T2.out.trans (Tch.of_below (S := fun _ => False) bd) (fun _ _ e => e.elim)
        have J2d := hideP (J2.out.below bd)
        have R2d := hideP (R2.out.below bd)
        have hS2d : W2d.rangeAt q 0 [Value.int .i64 (k : Int), .int .i64 (M : Int), .int .i64 (g : Int), .int .i64 ((m + 1 : Nat) : Int)] := Q2d.out.range
        change wpAnyH _ _ _ _ _ _ _ _ W2.drew
        rw [hW2d.out]
        generalize hjs : jsec (pcA g (m + 1) ys k) = js at *
        have HJS : Hid (jsec (pcA g (m + 1) ys k) = js) := hjs
        have HSZ : Hid ((bcs js).toArray.size = 256) := bcs_sizeU HJL.out
        have HON : Hid ((bcs js).toArray.all (·.oneCell') = true) := bcs_all _
        clear hjs bd Q2 D2 T2 J2 R2 hS hsl HSR2
        refine readyT2 6 7 (some 48) (some 10) (.call { callee := .value (.func 36), args := #[.tmp 47], argTypes := #[82] }) (.alloc 79) rfl rfl (by kernel_rfl) ?oA ?oB
        case oA =>
          rintro o K hd ho hgd hK
          refine step_call (enters_of Try.func36 (by kernel_rfl) rfl) ho (vs := #[.agg #[.int .i64 (k : Int), .int .i64 (M : Int), .int .i64 (g : Int), .int .i64 ((m + 1 : Nat) : Int), .slice ca l cc]]) (by kernel_rfl) (HSO.out _ R2d.out) ?_
          rintro e w3 ⟨rfl, b3⟩
          refine ⟨_, rfl, ?_⟩
          rw [hd]
          have Q3 := hideP (Q2d.out.below b3)
          have D3 := hideP (D2d.out.below b3)
          have T3 : Hid (Tch S w w3) := T2d.out.trans (Tch.of_below (S := fun _ => False) b3) (fun _ _ e => e.elim)
          have J3 := hideP (J2d.out.below b3)
          have R3 := hideP (R2d.out.below b3)
          refine hK _ _ Q3.out.range ?_
          clear b3 ho hd hgd hK
          simp only [Act.put, List.setIfInBounds_toArray, List.set_cons_zero, List.set_cons_succ]
          refine readyT 7 (some 10) (.alloc 79) rfl (by kernel_rfl) ?_
          rintro o K hd ho hgd hK
          refine step_allocF ho ?_
          rw [hd]
          obtain ⟨f, hf⟩ : ∃ f, Hid (w3.heap.size = f) := ⟨_, rfl⟩
          obtain ⟨w4, hw4⟩ : ∃ w4, Hid (w3.alloc (.cells (bcs zz).toArray 79) = w4) := ⟨_, rfl⟩
          have b4 : Below w3.heap.size w3 w4 := by rw [← hw4.out]; exact (Below.refl _ _).alloc (Nat.le_refl _) _
          have Q4 := hideP (Q3.out.below b4)
          have D4 := hideP (D3.out.below b4)
          have T4 : Hid (Tch S w w4) := T3.out.trans (Tch.of_below (S := fun _ => False) b4) (fun _ _ e => e.elim)
          have J4 := hideP (J3.out.below b4)
          have R4 := hideP (R3.out.below b4)
          have F4 : Hid (Fu w4 f zz) := by rw [← hw4.out, ← hf.out]; exact fv_newU _ zz_len zz_by
          have HSF : Hid (∀ i, S1 i → i ≠ f) := fun i hi => by have := D3.out.slt i hi; rw [← hf.out]; omega
          have HJF : Hid (j ≠ f) := by show _ ≠ _; have := J3.out.lt; rw [← hf.out]; omega
          have HQF : Hid (q ≠ f) := by show _ ≠ _; have := Q3.out.lt; rw [← hf.out]; omega
          have HWF : Hid (w.heap.size ≤ f) := by show _ ≤ _; rw [← hf.out]; exact T3.out.size
          rw [hf.out, hw4.out]
          refine hK _ _ Q4.out.range ?_
          clear b4 ho hd hgd hK hf hw4 Q3 D3 T3 J3 R3 Q2d D2d T2d J2d R2d
          simp only [Act.put, List.setIfInBounds_toArray, List.set_cons_zero, List.set_cons_succ]
          have HST : Hid (w4.there f 0 256) := F4.out.there
          have HTS : Hid (Tch (fun i => i = f) w4 (w4.setCells f 0 (bcs js))) := setCells_tchD f _ 0 w4
          have F5 : Hid (Fu (w4.setCells f 0 (bcs js)) f js) := F4.out.put HJL.out HJB.out
          have D5 := hideP (D4.out.tch HTS.out (fun i hi e => HSF.out i hi e))
          have J5 := hideP (J4.out.tch HTS.out HJF.out)
          have T5 : Hid (Tch S w (w4.setCells f 0 (bcs js))) := T4.out.trans HTS.out (fun i hi e => by have e2 : i = f := e; have := HWF.out; omega)
          have hS5 : (w4.setCells f 0 (bcs js)).rangeAt q 0 [Value.int .i64 (k : Int), .int .i64 (M : Int), .int .i64 (g : Int), .int .i64 ((m + 1 : Nat) : Int)] := (Q4.out.tch HTS.out HQF.out).range
          obtain ⟨w5, hw5⟩ : ∃ w5, Hid (w4.setCells f 0 (bcs js) = w5) := ⟨_, rfl⟩
          refine readyT 8 none (.store 79 (.tmp 10) (.tmp 48)) rfl (by kernel_rfl) ?_
          rintro o K hd ho hgd hK
          refine wp_store_mid 79 (.tmp 10) (.tmp 48) ho f 0 (bcs js).toArray rfl rfl (by rw [HSZ.out]; exact HST.out) (by rw [HSZ.out]; exact HI.out) HON.out ?_
          rw [hd]
          refine hK _ _ (by simpa using hS5) ?_
          clear ho hd hgd hK
          simp only [List.toList_toArray, Act.put, List.setIfInBounds_toArray, List.set_cons_zero, List.set_cons_succ]
          rw [hw5.out] at F5 D5 J5 T5 ⊢
          refine wpAnyH_done (by kernel_rfl) ?_ _
          have c0 : w5.drew.cell? ⟨j, 0, none⟩ = some (.pointer (some ⟨d, 0, none⟩)) := J5.out.cell (i := 0) rfl
          have c3 : w5.drew.cell? ⟨j, 3, none⟩ = some (.int .i64 (a : Int)) := J5.out.cell (i := 3) rfl
          have HVL : Hid (((jap s g (m + 1) a ys k).V (a + k)).length < 274877906943) := by
            show _ < _
            have h1 := jap_V s g (m + 1) a ys k (a + k)
            have h2 := HVN.out (a + k)
            omega
          have HWR := hideP (fun W (hW : Below w5.heap.size w5 W) => write_ok (a + k) (.slice (some ⟨f, 0, none⟩) 256 256) js W (D5.out.below hW) (by rw [jap_L]; have := H50.out; omega) (F5.out.below hW).rd HJL.out HJB.out (fun i hi e => by cases hi; exact HSF.out _ e rfl) HVL.out)
          have HAK : Hid ((a : Int) + (k : Int) = ((a + k : Nat) : Int)) := by show _ = _; omega
          clear hS5 HTS HST Q4 D4 T4 J4 R4 F4 hw5
          unfold dp at HWR
          have HWK : Hid (IntKind.i64.wrap ((a : Int) + (k : Int)) = ((a + k : Nat) : Int)) := by show _ = _; rw [IntKind.wrap_i64]; omega
          have HDT : Hid (∀ w6, DkTo S1 w5.drew w6 d ((jap s g (m + 1) a ys k).wr (a + k) js) → DkTo S w w6 d (jap s g (m + 1) a ys (k + 1))) := fun w6 h6 => by
            rw [jap, HJS.out]
            exact DkTo.trans (D5.out.below ((Below.refl _ _).drew)) T5.out.drew HN2.out h6
          have HJT : Hid (∀ w6, DkTo S w w6 d (jap s g (m + 1) a ys (k + 1)) → Jb w6 j d g m a) := fun w6 h6 => by
            obtain ⟨_, _, t6, _⟩ := h6
            exact HJ.out.tch t6 HSJ.out
          go_wp2_with fail
          go_region_held3 (fun w' => w'.cell? ⟨j, 0, none⟩ = some (.pointer (some ⟨d, 0, none⟩)) ∧ w'.cell? ⟨j, 3, none⟩ = some (.int .i64 (a : Int))) (first | go_keep | exact ⟨e0, e3⟩)
            ((go_at_call 19; rw [HWK.out]; refine (HWR.out w5.drew ((Below.refl _ _).drew)).mono ?_; rintro e w6 ⟨rfl, hd6⟩; have DT6 : Hid (DkTo S w w6 d (jap s g (m + 1) a ys (k + 1))) := HDT.out w6 hd6; clear hd6; have J6 := hideP (HJT.out w6 DT6.out); have e0 := J6.out.cell (i := 0) rfl; have e3 := J6.out.cell (i := 3) rfl))
          clear HWR c0 c3 e0 e3 J6 D5 J5 T5 F5 HDT HJT
          go_wp2_with fail
          go_roundw
          case rel => exact ⟨k + 1, by omega, by go_num, DT6⟩
          case measure => simp [intOf]; omega
        case oB =>
          rintro o K hd ho hgd hK
          refine step_allocF ho ?_
          rw [hd]
          obtain ⟨f, hf⟩ : ∃ f, Hid (W2d.heap.size = f) := ⟨_, rfl⟩
          obtain ⟨w3, hw3⟩ : ∃ w3, Hid (W2d.alloc (.cells (bcs zz).toArray 79) = w3) := ⟨_, rfl⟩
          have b3 : Below W2d.heap.size W2d w3 := by rw [← hw3.out]; exact (Below.refl _ _).alloc (Nat.le_refl _) _
          have Q3 := hideP (Q2d.out.below b3)
          have D3 := hideP (D2d.out.below b3)
          have T3 : Hid (Tch S w w3) := T2d.out.trans (Tch.of_below (S := fun _ => False) b3) (fun _ _ e => e.elim)
          have J3 := hideP (J2d.out.below b3)
          have R3 := hideP (R2d.out.below b3)
          have F3 : Hid (Fu w3 f zz) := by rw [← hw3.out, ← hf.out]; exact fv_newU _ zz_len zz_by
          have HSF : Hid (∀ i, S1 i → i ≠ f) := fun i hi => by have := D2d.out.slt i hi; rw [← hf.out]; omega
          have HJF : Hid (j ≠ f) := by show _ ≠ _; have := J2d.out.lt; rw [← hf.out]; omega
          have HQF : Hid (q ≠ f) := by show _ ≠ _; have := Q2d.out.lt; rw [← hf.out]; omega
          have HWF : Hid (w.heap.size ≤ f) := by show _ ≤ _; rw [← hf.out]; exact T2d.out.size
          rw [hf.out, hw3.out]
          refine hK _ _ Q3.out.range ?_
          clear b3 ho hd hgd hK hf hw3
          simp only [Act.put, List.setIfInBounds_toArray, List.set_cons_zero, List.set_cons_succ]
          refine readyT 6 (some 48) (.call { callee := .value (.func 36), args := #[.tmp 47], argTypes := #[82] }) rfl (by kernel_rfl) ?_
          rintro o K hd ho hgd hK
          refine step_call (enters_of Try.func36 (by kernel_rfl) rfl) ho (vs := #[.agg #[.int .i64 (k : Int), .int .i64 (M : Int), .int .i64 (g : Int), .int .i64 ((m + 1 : Nat) : Int), .slice ca l cc]]) (by kernel_rfl) (HSO.out _ R3.out) ?_
          rintro e w4 ⟨rfl, b4⟩
          refine ⟨_, rfl, ?_⟩
          rw [hd]
          have Q4 := hideP (Q3.out.below b4)
          have D4 := hideP (D3.out.below b4)
          have T4 : Hid (Tch S w w4) := T3.out.trans (Tch.of_below (S := fun _ => False) b4) (fun _ _ e => e.elim)
          have J4 := hideP (J3.out.below b4)
          have R4 := hideP (R3.out.below b4)
          have F4 := hideP (F3.out.below b4)
          refine hK _ _ Q4.out.range ?_
          clear b4 ho hd hgd hK Q3 D3 T3 J3 R3 F3 Q2d D2d T2d J2d R2d
          simp only [Act.put, List.setIfInBounds_toArray, List.set_cons_zero, List.set_cons_succ]
          have HST : Hid (w4.there f 0 256) := F4.out.there
          have HTS : Hid (Tch (fun i => i = f) w4 (w4.setCells f 0 (bcs js))) := setCells_tchD f _ 0 w4
          have F5 : Hid (Fu (w4.setCells f 0 (bcs js)) f js) := F4.out.put HJL.out HJB.out
          have D5 := hideP (D4.out.tch HTS.out (fun i hi e => HSF.out i hi e))
          have J5 := hideP (J4.out.tch HTS.out HJF.out)
          have T5 : Hid (Tch S w (w4.setCells f 0 (bcs js))) := T4.out.trans HTS.out (fun i hi e => by have e2 : i = f := e; have := HWF.out; omega)
          have hS5 : (w4.setCells f 0 (bcs js)).rangeAt q 0 [Value.int .i64 (k : Int), .int .i64 (M : Int), .int .i64 (g : Int), .int .i64 ((m + 1 : Nat) : Int)] := (Q4.out.tch HTS.out HQF.out).range
          obtain ⟨w5, hw5⟩ : ∃ w5, Hid (w4.setCells f 0 (bcs js) = w5) := ⟨_, rfl⟩
          refine readyT 8 none (.store 79 (.tmp 10) (.tmp 48)) rfl (by kernel_rfl) ?_
          rintro o K hd ho hgd hK
          refine wp_store_mid 79 (.tmp 10) (.tmp 48) ho f 0 (bcs js).toArray rfl rfl (by rw [HSZ.out]; exact HST.out) (by rw [HSZ.out]; exact HI.out) HON.out ?_
          rw [hd]
          refine hK _ _ (by simpa using hS5) ?_
          clear ho hd hgd hK
          simp only [List.toList_toArray, Act.put, List.setIfInBounds_toArray, List.set_cons_zero, List.set_cons_succ]
          rw [hw5.out] at F5 D5 J5 T5 ⊢
          refine wpAnyH_done (by kernel_rfl) ?_ _
          have c0 : w5.drew.cell? ⟨j, 0, none⟩ = some (.pointer (some ⟨d, 0, none⟩)) := J5.out.cell (i := 0) rfl
          have c3 : w5.drew.cell? ⟨j, 3, none⟩ = some (.int .i64 (a : Int)) := J5.out.cell (i := 3) rfl
          have HVL : Hid (((jap s g (m + 1) a ys k).V (a + k)).length < 274877906943) := by
            show _ < _
            have h1 := jap_V s g (m + 1) a ys k (a + k)
            have h2 := HVN.out (a + k)
            omega
          have HWR := hideP (fun W (hW : Below w5.heap.size w5 W) => write_ok (a + k) (.slice (some ⟨f, 0, none⟩) 256 256) js W (D5.out.below hW) (by rw [jap_L]; have := H50.out; omega) (F5.out.below hW).rd HJL.out HJB.out (fun i hi e => by cases hi; exact HSF.out _ e rfl) HVL.out)
          have HAK : Hid ((a : Int) + (k : Int) = ((a + k : Nat) : Int)) := by show _ = _; omega
          clear hS5 HTS HST Q4 D4 T4 J4 R4 F4 hw5
          unfold dp at HWR
          have HWK : Hid (IntKind.i64.wrap ((a : Int) + (k : Int)) = ((a + k : Nat) : Int)) := by show _ = _; rw [IntKind.wrap_i64]; omega
          have HDT : Hid (∀ w6, DkTo S1 w5.drew w6 d ((jap s g (m + 1) a ys k).wr (a + k) js) → DkTo S w w6 d (jap s g (m + 1) a ys (k + 1))) := fun w6 h6 => by
            rw [jap, HJS.out]
            exact DkTo.trans (D5.out.below ((Below.refl _ _).drew)) T5.out.drew HN2.out h6
          have HJT : Hid (∀ w6, DkTo S w w6 d (jap s g (m + 1) a ys (k + 1)) → Jb w6 j d g m a) := fun w6 h6 => by
            obtain ⟨_, _, t6, _⟩ := h6
            exact HJ.out.tch t6 HSJ.out
          go_wp2_with fail
          go_region_held3 (fun w' => w'.cell? ⟨j, 0, none⟩ = some (.pointer (some ⟨d, 0, none⟩)) ∧ w'.cell? ⟨j, 3, none⟩ = some (.int .i64 (a : Int))) (first | go_keep | exact ⟨e0, e3⟩)
            ((go_at_call 19; rw [HWK.out]; refine (HWR.out w5.drew ((Below.refl _ _).drew)).mono ?_; rintro e w6 ⟨rfl, hd6⟩; have DT6 : Hid (DkTo S w w6 d (jap s g (m + 1) a ys (k + 1))) := HDT.out w6 hd6; clear hd6; have J6 := hideP (HJT.out w6 DT6.out); have e0 := J6.out.cell (i := 0) rfl; have e3 := J6.out.cell (i := 3) rfl))
          clear HWR c0 c3 e0 e3 J6 D5 J5 T5 F5 HDT HJT
          go_wp2_with fail
          go_roundw
          case rel => exact ⟨k + 1, by omega, by go_num, DT6⟩
          case measure => simp [intOf]; omega
      · have hnn : ¬ (k : Int) < (M : Int) := by omega
        have hkM : k = M := by omega
        rw [hkM] at DT
        clear hkM
        obtain ⟨S1, D1, T1, N1⟩ := DT.out
        have J1 : Jb wr j d g m a := HJ.out.tch T1 HSJ.out
        have c2 := J1.cell (i := 2) rfl
        have c3 := J1.cell (i := 3) rfl
        have f2 := J1.fz 2
        have f3 := J1.fz 3
        have HSJ1 : Hid (∀ i, S1 i → i ≠ j) := fun i hi e => by
          rcases N1 i hi with h | h
          · exact HSJ.out (e ▸ h)
          · omega
        have ha1 : (a : Int) + (M : Int) = ((a + M : Nat) : Int) := by omega
        have hm1 : (m : Int) + 1 = ((m + 1 : Nat) : Int) := by omega
        have HJ2 : Hid (Jb ((wr.setCell ⟨j, 3, none⟩ (.int .i64 ((a + M : Nat) : Int))).setCell ⟨j, 2, none⟩ (.int .i64 ((m + 1 : Nat) : Int))) j d g (m + 1) (a + M)) := by
          have := (J1.set 3 (.int .i64 ((a + M : Nat) : Int))).set 2 (.int .i64 ((m + 1 : Nat) : Int))
          exact this
        have HT2 : Hid (Tch (fun i => i = j) wr ((wr.setCell ⟨j, 3, none⟩ (.int .i64 ((a + M : Nat) : Int))).setCell ⟨j, 2, none⟩ (.int .i64 ((m + 1 : Nat) : Int)))) := (tch_set wr j 3 _).trans (tch_set _ j 2 _) (fun _ _ e => e)
        have HD2 := hideP (D1.tch HT2.out (fun i hi => HSJ1.out i hi))
        have HTT : Hid (Tch (fun i => S i ∨ i = j) w ((wr.setCell ⟨j, 3, none⟩ (.int .i64 ((a + M : Nat) : Int))).setCell ⟨j, 2, none⟩ (.int .i64 ((m + 1 : Nat) : Int)))) := (T1.mono (fun i _ h => .inl h)).trans HT2.out (fun i _ e => .inr e)
        have HN1 := hideP N1
        obtain ⟨aM, haM⟩ : ∃ x, Hid (a + M = x) := ⟨_, rfl⟩
        obtain ⟨m1, hmm⟩ : ∃ x, Hid (m + 1 = x) := ⟨_, rfl⟩
        rw [haM.out] at ha1 HJ2 HD2 HTT
        rw [hmm.out] at hm1 HJ2 HD2 HTT
        have hb1 : (aM : Int) < 1000 := by rw [← haM.out]; omega
        have hb2 : (m1 : Int) < 4294967296 := by rw [← hmm.out]; omega
        clear D1 T1 N1 DT J1 HT2 HJ HD
        go_wp2_with fail
        go_ret
        refine .inl ⟨HN.out, rfl, S1, ?_, ?_, HTT.out, HN1.out⟩
        · rw [hM.out, hmm.out]; exact HD2.out
        · rw [hmm.out, hM.out, haM.out]; exact HJ2.out
end Go.Proofs.Ytaacidgihhcpkaa
