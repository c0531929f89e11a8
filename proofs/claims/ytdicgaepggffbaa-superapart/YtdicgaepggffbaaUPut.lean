/-
  The program's Put of superblocks.
-/
import Derived.Test.YtdicgaepggffbaaUSec
namespace Go.Proofs.Ytdicgaepggffbaa
open Go.RowKit Pl
set_option linter.unusedVariables false
set_option linter.unusedSimpArgs false
set_option maxRecDepth 100000

/-- What is told of a superblock that is to be put. -/
def PutU (s : Sp) (w : World) (e : Ending) (w' : World) : Prop :=
  ∃ v c, e = .returned (.tuple #[v, .int .i64 c]) ∧ Below w.heap.size w w' ∧ (∀ j, v.ownBlock = some j → w.heap.size ≤ j) ∧
    ((mayU s = true ∧ c = 0 ∧ Wb w' v (usec s) ∧ ∃ g, v = .slice (some ⟨g, 0, none⟩) 256 256) ∨ (mayU s = false ∧ c = 1 ∧ v = .slice none 0 0))

set_option maxHeartbeats 400000 in
theorem putU_any (s : Sp) (v : Value) (w : World) (hr : RdV w v s.vs) :
    Calls Try.prog 8 #[supv s v] w fun e w' => PutU s w e w' := by
  obtain ⟨a, cap, rfl, h1, h2, _⟩ := id hr
  obtain ⟨hv, hi⟩ := zero_of_info info_frmU
  have HSL := slice_frmU
  have HR : Hid (RdV w (.slice a s.vs.length cap) s.vs) := hr
  have HI : Hid ((Try.prog.info? 62).map (·.size) = some 256) := hi
  obtain ⟨W1, hW1⟩ : ∃ W1, w.alloc (.cells #[.int .i64 s.gen, .int .i64 s.sc, .int .i64 s.nx, .slice a s.vs.length cap] 24) = W1 := ⟨_, rfl⟩
  have b1 : Hid (Below w.heap.size w W1) := by rw [← hW1]; exact (Below.refl _ _).alloc (Nat.le_refl _) _
  have Q1 : Hid (Uv W1 w.heap.size s (.slice a s.vs.length cap)) := by rw [← hW1]; exact uv_new w s _
  have q0 := Q1.out.c0
  have q1 := Q1.out.c1
  have q2 := Q1.out.c2
  have q3 := Q1.out.c3
  obtain ⟨Z, hZ⟩ : ∃ Z, Hid ((bcs zz).toArray = Z) := ⟨_, rfl⟩
  have HZ : Hid (Z.size = 256) := by show _ = _; rw [← hZ.out, List.size_toArray, bcs_len, zz_len]
  rw [hZ.out] at hv
  have HM1 := hideP (mayU_any s _ W1 (HR.out.below b1.out))
  have HSO : Hid (∀ W, RdV W (.slice a s.vs.length cap) s.vs → mayU s = true → Calls Try.prog 35 #[supv s (.slice a s.vs.length cap)] W fun e w' => e = .returned (.agg (bcs (usec s)).toArray) ∧ Below W.heap.size W w') := fun W h1 h2 => sectorOfU_any s _ W h1 h2
  unfold supv at HM1 HSO
  unfold supv
  obtain ⟨l, hl⟩ : ∃ l, Hid (s.vs.length = l) := ⟨_, rfl⟩
  rw [hl.out] at HR hW1 q3 Q1 HM1 HSO ⊢
  obtain ⟨ge, hge⟩ : ∃ l, Hid (s.gen = l) := ⟨_, rfl⟩
  obtain ⟨sc, hsc⟩ : ∃ l, Hid (s.sc = l) := ⟨_, rfl⟩
  obtain ⟨nx, hnx⟩ : ∃ l, Hid (s.nx = l) := ⟨_, rfl⟩
  rw [hge.out, hsc.out, hnx.out] at HM1 HSO hW1
  rw [hge.out] at q0
  rw [hsc.out] at q1
  rw [hnx.out] at q2
  rw [hge.out, hsc.out, hnx.out]
  cases hm : mayU s with
  | false =>
    have HPo : Hid (∀ w', Below w.heap.size w w' → PutU s w (.returned (.tuple #[.slice none 0 0, .int .i64 1])) w') := fun w' h => ⟨_, _, rfl, h, (fun j e => by cases e), .inr ⟨hm, rfl, rfl⟩⟩
    rw [hm] at HM1
    clear hm hr h1 h2 hi HSO
    go_enter Try.func8, Try.ntmps8
    go_wp2_with fail
    refine HM1.out.mono ?_
    rintro e w2 ⟨rfl, hb2⟩
    have B2 : Hid (Below w.heap.size w w2) := b1.out.trans (hb2.mono b1.out.size)
    clear hb2 hW1
    go_wp2_with fail
    go_ret2
    exact HPo.out _ B2.out
  | true =>
    have HMT : Hid (mayU s = true) := hm
    rw [hm] at HM1
    clear hm hr h1 h2 hi
    go_enter Try.func8, Try.ntmps8
    go_wp2_with fail
    refine HM1.out.mono ?_
    rintro e w2 ⟨rfl, hb2⟩
    have B2 : Hid (Below w.heap.size w w2) := b1.out.trans (hb2.mono b1.out.size)
    have Q2 : Hid (Uv w2 w.heap.size s (.slice a l cap)) := Q1.out.below hb2
    have HC := hideP (HSO.out w2 (HR.out.below B2.out) HMT.out)
    have p0 := Q2.out.c0
    have p1 := Q2.out.c1
    have p2 := Q2.out.c2
    have p3 := Q2.out.c3
    rw [hge.out] at p0
    rw [hsc.out] at p1
    rw [hnx.out] at p2
    clear hb2 hW1 q0 q1 q2 q3 Q1 b1 HSO
    go_wp2_with fail
    refine HC.out.mono ?_
    rintro e w3 ⟨rfl, hb3⟩
    have B3 : Hid (Below w.heap.size w w3) := B2.out.trans (hb3.mono B2.out.size)
    have HSE : Hid ((usec s).length = 256) := usec_len (mayU_iff.1 HMT.out).1.2.2.2.2.2.2
    have HSZ : Hid ((bcs (usec s)).toArray.size = 256) := bcs_sizeU HSE.out
    have HON : Hid ((bcs (usec s)).toArray.all (·.oneCell') = true) := bcs_all _
    obtain ⟨W4, hW4⟩ : ∃ W4, w3.alloc (.cells (bcs (usec s)).toArray 62) = W4 := ⟨_, rfl⟩
    have F4 : Hid (Fu W4 w3.heap.size (usec s)) := by rw [← hW4]; exact fv_newU w3 HSE.out (usec_by s)
    have B4 : Hid (Below w.heap.size w W4) := by rw [← hW4]; exact B3.out.alloc B3.out.size _
    have HS3 : Hid (w.heap.size ≤ w3.heap.size) := B3.out.size
    have HW4 : Hid (w3.alloc (.cells (bcs (usec s)).toArray 62) = W4) := hW4
    clear hW4 hb3 p0 p1 p2 p3 Q2
    go_wp2_with (with_reducible (show wpList _ _ _ (Oper.mk _ (Op.store _ _ _) _ _ _ _ :: _) _ _); refine wpList_store_newD _ rfl 62 (.tmp 4) (.tmp 9) rfl Z (bcs (usec s)).toArray rfl rfl (by rw [HI.out, HSZ.out]) (by rw [HZ.out, HSZ.out]) HON.out ?_; rw [HW4.out])
    go_ret2
    refine ⟨_, _, rfl, B4.out, (fun j e => by cases e; exact HS3.out), .inl ⟨HMT.out, rfl, F4.out.wb, _, rfl⟩⟩
end Go.Proofs.Ytdicgaepggffbaa
