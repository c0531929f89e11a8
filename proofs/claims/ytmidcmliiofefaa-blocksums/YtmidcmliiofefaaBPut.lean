/-
  The program's Put.
-/
import Derived.Test.YtmidcmliiofefaaBSec
namespace Go.Proofs.Ytmidcmliiofefaa
open Go.RowKit Pl
set_option linter.unusedVariables false
set_option linter.unusedSimpArgs false
set_option maxRecDepth 100000

/-- What is told of a block that is to be put. -/
def PutR (n k : Int) (ys : List Int) (w : World) (e : Ending) (w' : World) : Prop :=
  ∃ v c, e = .returned (.tuple #[v, .int .i64 c]) ∧ Below w.heap.size w w' ∧ (∀ j, v.ownBlock = some j → w.heap.size ≤ j) ∧
    ((mayK n k ys.length = true ∧ c = 0 ∧ Wb w' v (sec n k ys) ∧ ∃ g, v = .slice (some ⟨g, 0, none⟩) 256 256) ∨ (mayK n k ys.length = false ∧ c = 1 ∧ v = .slice none 0 0))

set_option maxHeartbeats 400000 in
theorem put_any (n k : Int) (v : Value) (ys : List Int) (w : World) (hr : Rd .u8 w v ys) (hb : By ys) :
    Calls Try.prog 9 #[.int .i64 n, blk k v] w fun e w' => PutR n k ys w e w' := by
  obtain ⟨a, cap, rfl, h1, h2, _⟩ := id hr
  obtain ⟨hv, hi⟩ := zero_of_info info_frm
  have HSL := slice_frm
  have HR : Hid (Rd .u8 w (.slice a ys.length cap) ys) := hr
  have HY : Hid (By ys) := hb
  have HI : Hid ((Try.prog.info? 41).map (·.size) = some 256) := hi
  obtain ⟨W1, hW1⟩ : ∃ W1, w.alloc (.cells #[.int .i64 k, .slice a ys.length cap] 24) = W1 := ⟨_, rfl⟩
  have b1 : Hid (Below w.heap.size w W1) := by rw [← hW1]; exact (Below.refl _ _).alloc (Nat.le_refl _) _
  have Q1 : Hid (Bkv W1 w.heap.size k (.slice a ys.length cap)) := by rw [← hW1]; exact bkv_new w _ _
  have q0 := Q1.out.c0
  have q1 := Q1.out.c1
  have hl9 : Hid (ys.length ≤ 9223372036854775807) := by show _ ≤ _; unfold maxLen at h2; omega
  obtain ⟨Z, hZ⟩ : ∃ Z, Hid ((bcs zz).toArray = Z) := ⟨_, rfl⟩
  have HZ : Hid (Z.size = 256) := by show _ = _; rw [← hZ.out, List.size_toArray, bcs_len, zz_len]
  rw [hZ.out] at hv
  obtain ⟨l, hl⟩ : ∃ l, Hid (ys.length = l) := ⟨_, rfl⟩
  rw [hl.out] at HR hW1 q1 Q1 hl9 ⊢
  have M1 := mayBe_any n k a l cap W1 hl9.out
  have HM1 := hideP M1
  cases hm : mayK n k l with
  | false =>
    have HPo : Hid (∀ w', Below w.heap.size w w' → PutR n k ys w (.returned (.tuple #[.slice none 0 0, .int .i64 1])) w') := fun w' h => ⟨_, _, rfl, h, (fun j e => by cases e), .inr ⟨by rw [hl.out]; exact hm, rfl, rfl⟩⟩
    rw [hm] at HM1
    clear hm M1 hr hb h2 hi
    unfold blk at HM1 ⊢
    go_enter Try.func9, Try.ntmps9
    go_wp2_with fail
    refine HM1.out.mono ?_
    rintro e w2 ⟨rfl, hb2⟩
    have B2 : Hid (Below w.heap.size w w2) := b1.out.trans (hb2.mono b1.out.size)
    clear hb2 hW1
    go_wp2_with fail
    go_ret2
    exact HPo.out _ B2.out
  | true =>
    have HMT : Hid (mayK n k ys.length = true) := by rw [hl.out]; exact hm
    rw [hm] at HM1
    clear hm M1 hr hb h2 hi
    unfold blk at HM1 ⊢
    go_enter Try.func9, Try.ntmps9
    go_wp2_with fail
    refine HM1.out.mono ?_
    rintro e w2 ⟨rfl, hb2⟩
    have B2 : Hid (Below w.heap.size w w2) := b1.out.trans (hb2.mono b1.out.size)
    have Q2 : Hid (Bkv w2 w.heap.size k (.slice a l cap)) := Q1.out.below hb2
    have R2 : Hid (Rd .u8 w2 (.slice a l cap) ys) := HR.out.below B2.out
    have p0 := Q2.out.c0
    have p1 := Q2.out.c1
    clear hb2 hW1 q0 q1 Q1 b1
    go_wp2_with fail
    refine (sectorOf_any n k _ ys w2 R2.out HY.out HMT.out).mono ?_
    rintro e w3 ⟨rfl, hb3⟩
    have B3 : Hid (Below w.heap.size w w3) := B2.out.trans (hb3.mono B2.out.size)
    obtain ⟨m1, m2, m3, m4, m5⟩ := mayK_iff.1 HMT.out
    have HSE : Hid ((sec n k ys).length = 256) := sec_len n k (by omega)
    have HSZ : Hid ((bcs (sec n k ys)).toArray.size = 256) := bcs_size HSE.out
    have HON : Hid ((bcs (sec n k ys)).toArray.all (·.oneCell') = true) := bcs_all _
    obtain ⟨W4, hW4⟩ : ∃ W4, w3.alloc (.cells (bcs (sec n k ys)).toArray 41) = W4 := ⟨_, rfl⟩
    have F4 : Hid (Fv W4 w3.heap.size (sec n k ys)) := by rw [← hW4]; exact fv_new w3 HSE.out (sec_by ⟨m1, m2⟩ ⟨m3, m4⟩ HY.out (by omega))
    have B4 : Hid (Below w.heap.size w W4) := by rw [← hW4]; exact B3.out.alloc B3.out.size _
    have HS3 : Hid (w.heap.size ≤ w3.heap.size) := B3.out.size
    have HW4 : Hid (w3.alloc (.cells (bcs (sec n k ys)).toArray 41) = W4) := hW4
    clear hW4 hb3 m1 m2 m3 m4 m5 p0 p1
    go_wp2_with (with_reducible (show wpList _ _ _ (Oper.mk _ (Op.store _ _ _) _ _ _ _ :: _) _ _); refine wpList_store_newD _ rfl 41 (.tmp 6) (.tmp 13) rfl Z (bcs (sec n k ys)).toArray rfl rfl (by rw [HI.out, HSZ.out]) (by rw [HZ.out, HSZ.out]) HON.out ?_; rw [HW4.out])
    go_ret2
    refine ⟨_, _, rfl, B4.out, (fun j e => by cases e; exact HS3.out), .inl ⟨HMT.out, rfl, F4.out.wb, _, rfl⟩⟩
end Go.Proofs.Ytmidcmliiofefaa
