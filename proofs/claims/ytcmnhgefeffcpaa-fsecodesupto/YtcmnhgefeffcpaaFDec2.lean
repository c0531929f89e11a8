/-
  What Decode answers, for any share, log, bytes and number.
-/
import Derived.Test.YtcmnhgefeffcpaaFDec
namespace Go.Proofs.Ytcmnhgefeffcpaa
open Go.RowKit Pl
set_option linter.unusedVariables false

/-- What is told of what is read: nothing may be left. -/
def drE : Option (List Int × Nat) → Int × List Int
  | none => (3, [])
  | some t => if 0 < t.2 then (3, []) else (0, t.1)
/-- Decode's word and symbols. -/
def decR (s : List Int) (log : Int) (ys : List Int) (n : Int) : Int × List Int :=
  if mayS s log = false then (4, []) else if n < 0 ∨ 65536 < n then (1, []) else if 0 < ys.length ∧ ys.getD (ys.length - 1) 0 ≠ 0 then
    drE (dr (nn s) s.length (2 ^ log.toNat) log.toNat (unpack ys) (markAt ys) n.toNat)
  else (3, [])

def DPostF (r : Int × List Int) (w : World) (e : Ending) (w' : World) : Prop :=
  ∃ d, e = .returned (.tuple #[d, .int .i64 r.1]) ∧ Below w.heap.size w w' ∧ (∀ k, d.ownBlock = some k → w.heap.size ≤ k) ∧ Owns .i64 3 w' d r.2

theorem DPostF.bad {E : Int} {w w' : World} (hb : Below w.heap.size w w') : DPostF (E, []) w (.returned (.tuple #[.slice none 0 0, .int .i64 E])) w' :=
  ⟨_, rfl, hb, (fun k e => by cases e), owns_nil _ _ _⟩

set_option maxRecDepth 100000 in
set_option maxHeartbeats 4000000 in
theorem decode_anyF (sv dv : Value) (s ys : List Int) (log n : Int) (w : World) (hr : Rd .i64 w sv s) (hd : Rd .u8 w dv ys) (hy : By ys) (hl : ys.length ≤ 140737488355328) :
    Calls Try.prog 12 #[sv, .int .i64 log, dv, .int .i64 n] w fun e w' => DPostF (decR s log ys n) w e w' := by
  have HR : Hid (Rd .i64 w sv s) := hr
  have HD : Hid (Rd .u8 w dv ys) := hd
  have HY : Hid (By ys) := hy
  obtain ⟨hvT, hiT⟩ := zero_of_info info_tab
  have HIT : Hid ((Try.prog.info? 68).map (·.size) = some 1536) := hiT
  obtain ⟨ZT, hZT⟩ : ∃ Z, Hid ((ics 1536 (fun _ => 0)).toArray = Z) := ⟨_, rfl⟩
  rw [hZT.out] at hvT
  have HVT : Hid (∀ (w : World), Sem.run Try.prog (zeroValue 68) w = Result.ok (Value.agg ZT) w) := hvT
  have HZTL : Hid (ZT.size = 1536) := by show _ = _; rw [← hZT.out, ics_size]
  clear hr hd hy hvT hiT
  obtain ⟨R, hR⟩ : ∃ R, Hid (decR s log ys n = R) := ⟨_, rfl⟩
  rw [hR.out]
  cases hm : mayS s log with
  | false =>
    have HM : Hid (mayS s log = false) := hm
    have HE : Hid (R = (4, [])) := by show R = _; rw [← hR.out]; unfold decR; rw [if_pos hm]
    clear hm
    go_enter Try.func12, Try.ntmps12
    go_wp2_with fail
    refine (maybe_rdF sv s log w HR.out).mono ?_
    rintro e w1 ⟨rfl, rfl⟩
    rw [HM.out]
    go_wp2_with fail
    go_ret2
    rw [HE.out]
    exact DPostF.bad (Below.refl _ _)
  | true =>
    have HM : Hid (mayS s log = true) := hm
    obtain ⟨lg, rfl, hk⟩ := Sok.of hm
    have HK : Hid (Sok s lg) := hk
    have hl5 := hk.lo
    have hl9 := hk.hi
    have hmf : ¬ mayS s lg = false := by rw [hm]; simp
    clear hm hk
    by_cases hn : n < 0 ∨ 65536 < n
    · have HE : Hid (R = (1, [])) := by show R = _; rw [← hR.out]; unfold decR; rw [if_neg hmf, if_pos hn]
      clear hmf
      rcases hn with hn | hn
      all_goals
        go_enter Try.func12, Try.ntmps12
        go_wp2_with fail
        refine (maybe_rdF sv s lg w HR.out).mono ?_
        rintro e w1 ⟨rfl, rfl⟩
        rw [HM.out]
        go_wp2_with fail
        go_ret2
        rw [HE.out]
        exact DPostF.bad (Below.refl _ _)
    · obtain ⟨m, rfl⟩ := Int.eq_ofNat_of_zero_le (show 0 ≤ n by omega)
      have hm1 : m ≤ 65536 := by omega
      have hg1 : decide ((m : Int) < 0) = false := by rw [decide_eq_false_iff_not]; omega
      have hg2 : decide ((65536 : Int) < (m : Int)) = false := by rw [decide_eq_false_iff_not]; omega
      have HRR : Hid (R = if 0 < ys.length ∧ ys.getD (ys.length - 1) 0 ≠ 0 then
          drE (dr (nn s) s.length (2 ^ lg) lg (unpack ys) (markAt ys) m)
        else (3, [])) := by
        show R = _
        rw [← hR.out]; unfold decR; rw [if_neg hmf, if_neg hn]; rfl
      clear hn hmf
      go_enter Try.func12, Try.ntmps12
      go_wp2_with fail
      refine (maybe_rdF sv s lg w HR.out).mono ?_
      rintro e w1 ⟨rfl, rfl⟩
      rw [HM.out]
      go_wp2_with fail
      refine (newBack_rd dv ys w1 HD.out HY.out hl).mono ?_
      rintro e w2 (⟨hmk, b, rv, rfl, hb2, hB2, hbn, hrn⟩ | ⟨hmk, rfl, rfl⟩)
      · have B2 : Hid (Bk w2 b rv ys (markAt ys)) := hb2
        have L2 : Hid (Below w1.heap.size w1 w2) := hB2
        have BN : Hid (w1.heap.size ≤ b) := hbn
        obtain ⟨Q, hQ⟩ : ∃ Q, Hid (dr (nn s) s.length (2 ^ lg) lg (unpack ys) (markAt ys) m = Q) := ⟨_, rfl⟩
        have HE : Hid (R = drE Q) := by show R = _; unfold HasMark at hmk; rw [HRR.out, if_pos hmk, hQ.out]
        clear hb2 hB2 hbn hrn hmk HRR
        obtain ⟨z, hz⟩ : ∃ z : Nat, Hid (2 ^ lg = z) := ⟨_, rfl⟩
        rw [hz.out] at hQ
        go_wp2_with fail
        refine (tableOf_any sv s lg z w2 (HR.out.below L2.out) HK.out hz.out).mono ?_
        rintro e w3 ⟨rfl, hb3⟩
        obtain ⟨FT, hFT⟩ : ∃ FT, Hid (ics 1536 (t2 (nn s) s.length z lg z) = FT) := ⟨_, rfl⟩
        have HTS : Hid (FT.toArray.size = 1536) := by show _ = _; rw [List.size_toArray, ← hFT.out, ics_length]
        have HTO : Hid (FT.toArray.all (·.oneCell') = true) := by show _ = _; rw [← hFT.out]; exact ics_one _ _
        rw [hFT.out]
        have L3 : Hid (Below w2.heap.size w2 w3) := hb3
        clear hb3
        have hvT := HVT.out
        go_wp2_with (refine wpList_store_newF w3 rfl 68 (.tmp 12) (.tmp 34) rfl ZT FT.toArray rfl rfl (by rw [HTS.out]; exact HIT.out) (by rw [HTS.out, HZTL.out]) HTO.out ?_)
        clear hvT
        have TV : Hid (Iv (w3.alloc (.cells FT.toArray 68)) w3.heap.size 68 1536 (t2 (nn s) s.length z lg z)) := by
          have h := iv_new w3 68 1536 (t2 (nn s) s.length z lg z)
          rw [hFT.out] at h
          exact h
        have h34 : Below w3.heap.size w3 (w3.alloc (.cells FT.toArray 68)) := (Below.refl _ _).alloc (Nat.le_refl _) _
        have B4 : Hid (Bk (w3.alloc (.cells FT.toArray 68)) b rv ys (markAt ys)) := (B2.out.below L3.out).below h34
        have L4 : Hid (Below w1.heap.size w1 (w3.alloc (.cells FT.toArray 68))) := by
          have h1 := L2.out.trans (L3.out.mono L2.out.size)
          exact h1.alloc h1.size _
        have hne : w3.heap.size ≠ b := by have h1 := B2.out.lt; have h2 := L3.out.size; omega
        have HF : Hid (Fok (nn s) s.length z) := by show Fok _ _ _; rw [← hz.out]; exact HK.out.fok
        obtain ⟨p, hp⟩ : ∃ p, Hid (markAt ys = p) := ⟨_, rfl⟩
        rw [hp.out] at B4 hQ
        clear h34
        refine (takeSymbols_any b w3.heap.size rv ys (nn s) s.length z lg p m _ B4.out TV.out hne HF.out hz.out hl5 hl9 HK.out.len hm1).mono ?_
        rintro e w5 ⟨d, E, rfl, ht5, hcase⟩
        rw [hQ.out] at hcase
        have L5 : Hid (Below w1.heap.size w1 w5) := L4.out.trans (ht5.below L4.out.size (fun k e => by rw [e]; exact BN.out))
        rcases hcase with ⟨rfl, rfl, hq⟩ | ⟨rfl, l, q, hq, ho5, hd5, hb5⟩
        · have HE2 : Hid (R = (3, [])) := by show R = _; rw [HE.out, hq]; rfl
          clear ht5 hq
          go_wp2_with fail
          go_ret2
          rw [HE2.out]
          exact DPostF.bad L5.out
        · have B5 : Hid (Bk w5 b rv ys q) := hb5
          have O5 : Hid (Owns .i64 3 w5 d l) := ho5
          have D5 : Hid (∀ k, d.ownBlock = some k → w1.heap.size ≤ k) := fun k hk => Nat.le_trans L4.out.size (hd5 k hk)
          have HE2 : Hid (R = if 0 < q then (3, []) else (0, l)) := by show R = _; rw [HE.out, hq]; rfl
          obtain ⟨da, dc, hdv⟩ : ∃ da dc, d = .slice da l.length dc := by obtain ⟨a, c, e, _⟩ := ho5.rd; exact ⟨a, c, e⟩
          subst hdv
          clear ht5 hq hb5 ho5 hd5
          by_cases hq0 : 0 < q
          · have hq1 : (0 : Int) < (q : Int) := by omega
            go_wp2_with fail
            refine (backLeft_any b rv ys q w5 B5.out).mono ?_
            rintro e w6 ⟨rfl, rfl⟩
            go_wp2_with fail
            go_ret2
            rw [HE2.out, if_pos hq0]
            exact DPostF.bad L5.out
          · obtain rfl : q = 0 := by omega
            go_wp2_with fail
            refine (backLeft_any b rv ys 0 w5 B5.out).mono ?_
            rintro e w6 ⟨rfl, rfl⟩
            go_wp2_with fail
            go_ret2
            rw [HE2.out, if_neg hq0]
            exact ⟨_, rfl, L5.out, D5.out, O5.out⟩
      · have HE : Hid (R = (3, [])) := by show R = _; unfold HasMark at hmk; rw [HRR.out, if_neg hmk]
        clear hmk
        go_wp2_with fail
        go_ret2
        rw [HE.out]
        exact DPostF.bad (Below.refl _ _)
end Go.Proofs.Ytcmnhgefeffcpaa
