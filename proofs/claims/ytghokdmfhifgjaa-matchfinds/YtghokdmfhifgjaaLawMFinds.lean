/-
  MatchFinds: the steps that are found are just the document's: for every bytes and window the law answers true.
-/
import Derived.Test.YtghokdmfhifgjaaMRefFind
import Derived.Test.YtghokdmfhifgjaaLawMLit
namespace Go.Proofs.Ytghokdmfhifgjaa
open Go.RowKit Pl
set_option linter.unusedVariables false

theorem findR_len (ds : List Int) (win : Int) (h : ds.length ≤ 3000) : (findR ds win).2.length ≤ 65536 := by
  unfold findR
  split
  · simp
  · have := fst_len ds win.toNat ds.length
    show (fst_ ds win.toNat ds.length).2.2.length ≤ _
    omega

set_option maxRecDepth 100000 in
set_option maxHeartbeats 2000000 in
theorem matchFinds_walk (v1 : Value) (ds : List Int) (win : Int) (w : World) (h1 : Rd .u8 w v1 ds) (hy : By ds) :
    Calls Try.prog 3 #[v1, .int .i64 win] w fun e w' => e = .returned (.bool true) ∧ Below w.heap.size w w' := by
  have H1 : Hid (Rd .u8 w v1 ds) := h1
  obtain ⟨la, lc, rfl, _, _, _, _⟩ := h1
  have key : ∀ (dv : Value) (xs : List Int), Rd .u8 w dv xs → By xs → xs.length ≤ 3000 → ∃ r : Int × List Sq, r.2.length ≤ 65536 ∧ (Calls Try.prog 9 #[dv, .int .i64 win] w fun e w' => FPost r w e w') ∧ ∀ w2, Below w.heap.size w w2 → Calls Try.prog 10 #[dv, .int .i64 win] w2 fun e w' => FPost r w2 e w' := fun dv xs hr hb hl =>
    ⟨findR xs win, findR_len xs win hl, find_any dv xs win w hr hb, fun w2 hw => refFind_any dv xs win w2 (hr.below hw) hb⟩
  have HK : Hid (∀ (dv : Value) (xs : List Int), Rd .u8 w dv xs → By xs → xs.length ≤ 3000 → ∃ r : Int × List Sq, r.2.length ≤ 65536 ∧ (Calls Try.prog 9 #[dv, .int .i64 win] w fun e w' => FPost r w e w') ∧ ∀ w2, Below w.heap.size w w2 → Calls Try.prog 10 #[dv, .int .i64 win] w2 fun e w' => FPost r w2 e w') := key
  have HY : Hid (By ds) := hy
  clear key hy
  by_cases hbig : 3000 < ds.length
  · have hbI : (3000 : Int) < (ds.length : Int) := by omega
    go_enter Try.func3, Try.ntmps3
    go_wp2_with (with_reducible (show wpList _ _ _ (Oper.mk _ (Op.slice _ _ _ _ _) _ _ _ _ :: _) _ _); refine wpList_upto _ w rfl (.tmp 13) (.const (.int .i64 3000)) rfl (.slice la ds.length lc) ds rfl H1.out 3000 rfl (by omega) ?_)
    intro v5 hv5
    obtain ⟨r, hrl, hF, hG⟩ := HK.out v5 _ hv5 (HY.out.take 3000) (by rw [List.length_take]; omega)
    have HF : Hid (Calls Try.prog 9 #[v5, .int .i64 win] w fun e w' => FPost r w e w') := hF
    have HG : Hid (∀ w2, Below w.heap.size w w2 → Calls Try.prog 10 #[v5, .int .i64 win] w2 fun e w' => FPost r w2 e w') := hG
    have HRL : Hid (r.2.length ≤ 65536) := hrl
    clear hF hG hrl hv5 HK
    go_wp2_with fail
    refine HF.out.mono ?_
    clear HF
    intro e w2 hD
    obtain ⟨d, rfl, hb2, _, ho2⟩ := hD
    have B2 : Hid (Below w.heap.size w w2) := hb2
    have O2 : Hid (OwnsS w2 d r.2) := ho2
    clear hb2 ho2
    go_wp2_with fail
    refine (HG.out w2 B2.out).mono ?_
    clear HG
    intro e w3 hD
    obtain ⟨d2, rfl, hb3, _, ho3⟩ := hD
    have B3 : Hid (Below w.heap.size w w3) := B2.out.trans (hb3.mono B2.out.size)
    have O3 : Hid (OwnsS w3 d2 r.2) := ho3
    have O23 : Hid (OwnsS w3 d r.2) := O2.out.below hb3
    clear hb3 ho3 B2 O2
    go_wp2_with fail
    refine (stepsSame_rd _ _ r.2 w3 HRL.out O23.out.rd O3.out.rd).mono ?_
    rintro e w4 ⟨rfl, hb4⟩
    have B4 : Hid (Below w.heap.size w w4) := B3.out.trans (hb4.mono B3.out.size)
    obtain ⟨x, hx⟩ : ∃ x, Hid (r.1 = x) := ⟨_, rfl⟩
    rw [hx.out]
    have hxx : (x == x) = true := by simp
    clear hb4 B3 O3 O23
    go_wp2_with fail
    refine (lives_any _).mono ?_
    rintro e w9 ⟨rfl, hb9⟩
    go_wp2_with fail
    go_ret
    exact ⟨rfl, B4.out.trans (hb9.mono B4.out.size)⟩
  · have hbI : (ds.length : Int) ≤ 3000 := by omega
    obtain ⟨r, hrl, hF, hG⟩ := HK.out _ _ H1.out HY.out (by omega)
    have HF : Hid (Calls Try.prog 9 #[.slice la ds.length lc, .int .i64 win] w fun e w' => FPost r w e w') := hF
    have HG : Hid (∀ w2, Below w.heap.size w w2 → Calls Try.prog 10 #[.slice la ds.length lc, .int .i64 win] w2 fun e w' => FPost r w2 e w') := hG
    have HRL : Hid (r.2.length ≤ 65536) := hrl
    clear hF hG hrl HK hbig
    go_enter Try.func3, Try.ntmps3
    go_wp2_with fail
    refine HF.out.mono ?_
    clear HF
    intro e w2 hD
    obtain ⟨d, rfl, hb2, _, ho2⟩ := hD
    have B2 : Hid (Below w.heap.size w w2) := hb2
    have O2 : Hid (OwnsS w2 d r.2) := ho2
    clear hb2 ho2
    go_wp2_with fail
    refine (HG.out w2 B2.out).mono ?_
    clear HG
    intro e w3 hD
    obtain ⟨d2, rfl, hb3, _, ho3⟩ := hD
    have B3 : Hid (Below w.heap.size w w3) := B2.out.trans (hb3.mono B2.out.size)
    have O3 : Hid (OwnsS w3 d2 r.2) := ho3
    have O23 : Hid (OwnsS w3 d r.2) := O2.out.below hb3
    clear hb3 ho3 B2 O2
    go_wp2_with fail
    refine (stepsSame_rd _ _ r.2 w3 HRL.out O23.out.rd O3.out.rd).mono ?_
    rintro e w4 ⟨rfl, hb4⟩
    have B4 : Hid (Below w.heap.size w w4) := B3.out.trans (hb4.mono B3.out.size)
    obtain ⟨x, hx⟩ : ∃ x, Hid (r.1 = x) := ⟨_, rfl⟩
    rw [hx.out]
    have hxx : (x == x) = true := by simp
    clear hb4 B3 O3 O23
    go_wp2_with fail
    refine (lives_any _).mono ?_
    rintro e w9 ⟨rfl, hb9⟩
    go_wp2_with fail
    go_ret
    exact ⟨rfl, B4.out.trans (hb9.mono B4.out.size)⟩
end Go.Proofs.Ytghokdmfhifgjaa
