import Derived.Test.YtobenjkacpipeaaGreatPPkPk3
import Derived.Test.YtobenjkacpipeaaGreatPPkBody
import Derived.Lib.SlBytesConst
import Derived.Laws.BytesArg
set_option maxRecDepth 100000
set_option linter.unusedVariables false
set_option linter.unusedSimpArgs false
set_option maxHeartbeats 8000000
namespace Go.Proofs.YtobenjkacpipeaaGreat
open Go.RowKit Pl
def exX : List Int := [120, 120, 120, 120, 120, 120, 120]
def exO : List Int := [1, 7, 120, 107, 131, 159, 183]
theorem ex_crc : crc exX = 3080684395 := by decide +kernel
theorem zaar9 : best1 exX = [1, 7, 120] := by decide +kernel
theorem ztq9 {ds bs : List Int} (h : PkdR ds bs) : 1 <= bs.length := by
 obtain ⟨L, lb, _, _, ⟨cb, _, rfl⟩, _, rfl⟩ := h
 have := ze9 (L.length : Int)
 simp only [List.length_append]
 omega
theorem zyr9 {out : List Int} (h : PackR exX out) : out = exO := by
 obtain ⟨b, rfl, h | ⟨_, bs, hb, rfl⟩⟩ := h
 ·exact absurd h.1 (by decide)
 ·rw [ex_crc, zaar9]
  have h1 := ztq9 hb
  have h2 := ze9 (exX.length : Int)
  unfold shr
  rw [if_neg (by simp only [List.length_append, List.length_cons, List.length_nil]; omega)]
  decide +kernel
theorem ex_one : oneS (some exO) = (1, some [7, 120, 107, 131, 159, 183]) := by decide +kernel
theorem zuj9 : numS (some [7, 120, 107, 131, 159, 183]) = (7, some [120, 107, 131, 159, 183]) := by decide +kernel
theorem zyt9 : bodyS (some [120, 107, 131, 159, 183]) 1 7 = (exX, some [107, 131, 159, 183]) := by
 unfold bodyS
 rw [if_neg (by decide), if_pos rfl]
 decide +kernel
theorem ex_sum : sumS (some [107, 131, 159, 183]) = (3080684395, some []) := by decide +kernel
theorem zzu9 : unpS exO 7 = (0, exX) := by
 unfold unpS
 rw [if_neg (by decide), ex_one]
 simp only
 rw [zuj9]
 simp only
 unfold unpT
 have e7 : Int.toNat 7 = 7 := rfl
 rw [if_neg (by decide), if_neg (by decide), e7, zyt9]
 simp only
 rw [ex_sum, ex_crc]
 decide
theorem zzh9 : unpS exO 6 = (11, []) := by
 unfold unpS
 rw [if_neg (by decide), ex_one]
 simp only
 rw [zuj9]
 simp only
 unfold unpT
 rw [if_neg (by decide), if_pos (by decide)]
theorem byX : By exX := fun i => by
 match i with
 | 0 => decide | 1 => decide | 2 => decide | 3 => decide | 4 => decide | 5 => decide | 6 => decide
 | n + 7 => simp [exX]
theorem byO : By exO := fun i => by
 match i with
 | 0 => decide | 1 => decide | 2 => decide | 3 => decide | 4 => decide | 5 => decide | 6 => decide
 | n + 7 => simp [exO]
theorem zaav9 (w : World) (xs : List Int) (fz : Nat × Nat) (hm : xs.length <= maxLen) : Rd .u8 (w.alloc (.cells (xs.map (Value.int .u8)).toArray 5 fz)) (.slice (some ⟨w.heap.size, 0, none⟩) xs.length xs.length) xs := by
 refine ⟨_, xs.length, rfl, Nat.le_refl _, hm, fun e => (by cases e), .inr ⟨w.heap.size, 0, rfl, fun i hi => ?_⟩⟩
 have h : (w.alloc (.cells (xs.map (Value.int .u8)).toArray 5 fz)).heap[w.heap.size]? = some (.cells (xs.map (Value.int .u8)).toArray 5 fz) := heap_alloc_new w _
 rw [Nat.zero_add, cell_of_row _ _ i _ _ fz h]
 simp [List.getD_eq_getElem?_getD, hi]
theorem rdX (w : World) : Rd .u8 (w.alloc (.cells #[.int .u8 120, .int .u8 120, .int .u8 120, .int .u8 120, .int .u8 120, .int .u8 120, .int .u8 120] 5 (7, 8))) (.slice (some ⟨w.heap.size, 0, none⟩) 7 7) exX := zaav9 w exX (7, 8) (by unfold maxLen; decide)
theorem zid9 (w : World) : Calls Tryz.prog 7 #[] w fun e w' => e = .returned (.bool true) /\ Below w.heap.size w w' := by
 have kc := fun (w : World) (C : Array Value) (n c : Nat) => Lib.run_convert_bytes_const (P := Tryz.prog) w 22 5 C n c Tryz.underlying22 Tryz.underlying5
 go_enter Tryz.func7, Tryz.ntmps7
 go_wp2_with fail
 refine (zqd9 _ exX _ (rdX w) byX (by decide) (fun k e => by simp only [Value.ownBlock, Option.some.injEq] at e; subst e; simp)).mono ?_
 rintro e w1 ⟨ov, out, rfl, hp, ho, hb, hf⟩
 obtain rfl := zyr9 hp
 have B1 : Hid (Below w.heap.size w w1) := ((Below.refl _ w).alloc (Nat.le_refl _) _).trans (hb.mono (by simp))
 have O1 : Hid (Owns .u8 5 w1 ov exO) := ho
 clear hb hf ho hp
 go_wp2_with fail
 refine (zhp9 ov exO 7 w1 O1.out.rd byO (by decide) O1.out.lt).mono ?_
 intro e w2 h2
 rw [zzu9] at h2
 obtain ⟨bv, rfl, hn2, hb2⟩ := h2
 have B2 : Hid (Below w.heap.size w w2) := B1.out.trans (hb2.mono B1.out.size)
 have O2 : Hid (Owns .u8 5 w2 ov exO) := O1.out.below hb2
 have N2 : Hid (Nw w1.heap.size w2 bv exX) := hn2
 simp only
 clear hn2 hb2 B1 O1
 go_wp2_with fail
 refine (zhp9 ov exO 6 w2 O2.out.rd byO (by decide) O2.out.lt).mono ?_
 intro e w3 h3
 rw [zzh9] at h3
 obtain ⟨cv, rfl, _, hb3⟩ := h3
 have B3 : Hid (Below w.heap.size w w3) := B2.out.trans (hb3.mono B2.out.size)
 have o3 := O2.out.below hb3
 have n3 := (N2.out.below hb3).rd
 obtain ⟨g, c, rfl, _, _, _, q, _⟩ := o3.shape (by decide)
 have p0 : w3.cell? ⟨g, 0, none⟩ = some (.int .u8 1) := q 0 (by decide)
 have p1 : w3.cell? ⟨g, 1, none⟩ = some (.int .u8 7) := q 1 (by decide)
 have p2 : w3.cell? ⟨g, 2, none⟩ = some (.int .u8 120) := q 2 (by decide)
 obtain ⟨a, cc, rfl, _, _, _, qq⟩ := n3
 obtain ⟨gb, go, rfl, qz⟩ : ∃ b o, a = some ⟨b, o, none⟩ /\ ∀ i, i < exX.length -> w3.cell? ⟨b, o + i, none⟩ = some (.int .u8 (exX.getD i 0)) := by
  rcases qq with h | h
  ·cases h
  ·exact h
 have kd := run_convert_bytes_arg (P := Tryz.prog) w3 22 5 Tryz.underlying22 Tryz.underlying5 gb go 7 cc exX rfl qz 9 Tryz.underlying9
 have ks : strOfNums exX = ⟨#[120, 120, 120, 120, 120, 120, 120]⟩ := by decide +kernel
 rw [ks] at kd
 have el : exO.length = 7 := rfl
 have el2 : exX.length = 7 := rfl
 simp only [el, el2] at *
 clear hb3 o3 N2 B2 O2 q qq qz ks kc el el2
 go_wp2_with fail
 go_ret
 exact ⟨rfl, B3.out⟩
end Go.Proofs.YtobenjkacpipeaaGreat
