/-
  What Encode answers.
-/
import Derived.Test.YtcmnhgefeffcpaaFSmall
import Derived.Test.YtcmnhgefeffcpaaWMark
import Derived.Test.YtcmnhgefeffcpaaFBkw
namespace Go.Proofs.Ytcmnhgefeffcpaa
open Go.RowKit Pl Go.Shelf
set_option linter.unusedVariables false

attribute [local go_sem] Oper.semAt_some

/-- Encode's word and bytes. -/
def encR (s : List Int) (log : Int) (ds : List Int) : Int × List Int :=
  if mayS s log = false then (4, []) else if 65536 < ds.length ∨ allS s ds = false then (1, []) else (0, pack (eRow (nn s) s.length (2 ^ log.toNat) log.toNat ds ++ [1]))

def EPostF (r : Int × List Int) (w : World) (e : Ending) (w' : World) : Prop :=
  ∃ d, e = .returned (.tuple #[d, .int .i64 r.1]) ∧ Below w.heap.size w w' ∧ (∀ k, d.ownBlock = some k → w.heap.size ≤ k) ∧ Owns .u8 5 w' d r.2

theorem EPostF.bad {E : Int} {w w' : World} (hb : Below w.heap.size w w') : EPostF (E, []) w (.returned (.tuple #[.slice none 0 0, .int .i64 E])) w' :=
  ⟨_, rfl, hb, (fun k e => by cases e), owns_nil _ _ _⟩

theorem allShared_rd (v u : Value) (s ds : List Int) (w : World) (h1 : 1 ≤ s.length) (h2 : s.length ≤ 64) (h3 : ds.length ≤ 65536) (hr : Rd .i64 w v s) (hd : Rd .i64 w u ds) :
    Calls Try.prog 21 #[v, u] w fun e w' => e = .returned (.bool (allS s ds)) ∧ w' = w := by
  obtain ⟨a, cap, rfl, _, _, _, h⟩ := hr
  obtain ⟨a2, cap2, rfl, _, _, _, k⟩ := hd
  by_cases h0 : ds.length = 0
  · obtain rfl : ds = [] := List.eq_nil_of_length_eq_zero h0
    have e : allS s [] = true := by unfold allS; exact decide_eq_true (fun i hi => by simp at hi)
    rw [e]
    exact allShared_none _ a2 cap2 w
  · rcases h with rfl | ⟨b, o, rfl, hc⟩
    · simp at h1
    · rcases k with rfl | ⟨b2, o2, rfl, hd⟩
      · simp at h0
      · exact allShared_any b o cap b2 o2 cap2 s ds w h1 h2 h3 hc hd

set_option maxRecDepth 100000 in
set_option maxHeartbeats 4000000 in
theorem encode_bad (sv dv : Value) (s ds : List Int) (log : Int) (w : World) (hr : Rd .i64 w sv s) (hd : Rd .i64 w dv ds) (hb : mayS s log = false ∨ 65536 < ds.length ∨ allS s ds = false) :
    Calls Try.prog 9 #[sv, .int .i64 log, dv] w fun e w' => EPostF (encR s log ds) w e w' := by
  have HR : Hid (Rd .i64 w sv s) := hr
  have HD : Hid (Rd .i64 w dv ds) := hd
  obtain ⟨sa, sc, hsv⟩ : ∃ a c, sv = .slice a s.length c := by obtain ⟨a, c, e, _⟩ := hr; exact ⟨a, c, e⟩
  obtain ⟨da, dc, hdv⟩ : ∃ a c, dv = .slice a ds.length c := by obtain ⟨a, c, e, _⟩ := hd; exact ⟨a, c, e⟩
  subst hsv hdv
  clear hr hd
  have HB : Hid (Below w.heap.size w (w.alloc (.cells #[.slice sa s.length sc] 22))) := (Below.refl _ _).alloc (Nat.le_refl _) _
  obtain ⟨R, hR⟩ : ∃ R, Hid (encR s log ds = R) := ⟨_, rfl⟩
  rw [hR.out]
  cases hm : mayS s log with
  | false =>
    have HM : Hid (mayS s log = false) := hm
    have HE : Hid (R = (4, [])) := by show R = _; rw [← hR.out]; unfold encR; rw [if_pos hm]
    clear hm hb
    go_enter Try.func9, Try.ntmps9
    go_wp2_with fail
    refine (maybe_rdF _ s log _ (HR.out.below HB.out)).mono ?_
    rintro e w1 ⟨rfl, rfl⟩
    rw [HM.out]
    go_wp2_with fail
    go_ret2
    rw [HE.out]
    exact EPostF.bad HB.out
  | true =>
    have HM : Hid (mayS s log = true) := hm
    obtain ⟨lg, rfl, hk⟩ := Sok.of hm
    have HK : Hid (Sok s lg) := hk
    have hmf : ¬ mayS s lg = false := by rw [hm]; simp
    have hb2 : 65536 < ds.length ∨ allS s ds = false := by rcases hb with h | h; (· rw [hm] at h; cases h); (· exact h)
    have HE : Hid (R = (1, [])) := by show R = _; rw [← hR.out]; unfold encR; rw [if_neg hmf, if_pos hb2]
    clear hm hk hmf hb
    by_cases hn : 65536 < ds.length
    · have hn' : (65536 : Int) < (ds.length : Int) := by omega
      clear hb2
      go_enter Try.func9, Try.ntmps9
      go_wp2_with fail
      refine (maybe_rdF _ s lg _ (HR.out.below HB.out)).mono ?_
      rintro e w1 ⟨rfl, rfl⟩
      rw [HM.out]
      go_wp2_with fail
      go_ret2
      rw [HE.out]
      exact EPostF.bad HB.out
    · have HA : Hid (allS s ds = false) := by rcases hb2 with h | h; (· omega); (· exact h)
      have hn' : decide ((65536 : Int) < (ds.length : Int)) = false := by rw [decide_eq_false_iff_not]; omega
      clear hb2
      go_enter Try.func9, Try.ntmps9
      go_wp2_with fail
      refine (maybe_rdF _ s lg _ (HR.out.below HB.out)).mono ?_
      rintro e w1 ⟨rfl, rfl⟩
      rw [HM.out]
      go_wp2_with fail
      refine (allShared_rd _ _ s ds _ HK.out.pos HK.out.len (by omega) (HR.out.below HB.out) (HD.out.below HB.out)).mono ?_
      rintro e w1 ⟨rfl, rfl⟩
      rw [HA.out]
      go_wp2_with fail
      go_ret2
      rw [HE.out]
      exact EPostF.bad HB.out
end Go.Proofs.Ytcmnhgefeffcpaa
