/-
  What a writer tells with a mark behind.
-/
import Derived.Test.YtcmnhgefeffcpaaWrF
import Derived.Test.YtcmnhgefeffcpaaPut
import Derived.Test.YtcmnhgefeffcpaaRow
import Derived.WalkKit
import Derived.WalkSpells
import Derived.Deep.RegionHeld3
namespace Go.Proofs.Ytcmnhgefeffcpaa
open Go.RowKit Pl
set_option linter.unusedVariables false

theorem own_form {k : IntKind} {e : TypeId} {w : World} {v : Value} {xs : List Int} (h : Owns k e w v xs) : ∃ a cap, v = .slice a xs.length cap := by
  obtain ⟨a, cap, e, _⟩ := h.rd
  exact ⟨a, cap, e⟩

/-- A new writer whose two fields are stored. -/
theorem wr_fresh (W : World) (c : Nat) (x y v : Value) (bs : List Int) (hblk : W.heap[c]? = some (.cells #[x, y] 98 (0, 0))) (ho : Owns .u8 5 W v (pack bs)) (hb : Bits bs) (hne : v.ownBlock ≠ some c) :
    Wr ((W.setCell ⟨c, 0, none⟩ v).setCell ⟨c, 1, none⟩ (.int .i64 bs.length)) c v bs := by
  refine ⟨?_, ?_, hb⟩
  · have h1 := heap_setCell_same W c 0 _ _ v hblk
    have h2 := heap_setCell_same _ c 1 _ _ (.int .i64 bs.length) h1
    rw [h2]
    simp
  · exact ho.tch (S := fun k => k = c) (Tch.setCell (Tch.setCell (Tch.refl (fun k => k = c) W) (p := ⟨c, 0, none⟩) (fun _ => rfl) v) (p := ⟨c, 1, none⟩) (fun _ => rfl) _) (fun j hj e => hne (by rw [hj, e]))

set_option maxRecDepth 100000 in
set_option maxHeartbeats 1000000 in
theorem wmarked_any (b : Nat) (rv : Value) (bs : List Int) (w : World) (h : Wr w b rv bs) (hb : bs.length ≤ 1125899906841900) :
    Calls Try.prog 28 #[.pointer (some ⟨b, 0, none⟩)] w fun e w' => ∃ v', e = .returned v' ∧ Owns .u8 5 w' v' (pack (bs ++ [1])) ∧
      Below w.heap.size w w' ∧ ∀ k, v'.ownBlock = some k → w.heap.size ≤ k := by
  have c0 := h.c0
  have d1 := h.c1
  have H : Hid (Wr w b rv bs) := h
  have hlt := h.lt
  have HRD : Hid (∀ W : World, Below w.heap.size w W → Rd .u8 W rv (pack bs)) := fun W hW => (rd_of_owns h.own).below hW
  have HBB : Hid ((pack bs).length ≤ 140737488355328) := by show _ ≤ _; rw [pack_length]; omega
  have n0 := World.new_ne w ⟨b, 0, none⟩ c0
  have n1 := World.new_ne w ⟨b, 1, none⟩ d1
  clear h
  go_enter Try.func28, Try.ntmps28
  go_wp2_with fail
  go_region_held3 (fun w' => w'.cell? ⟨b, 0, none⟩ = some rv ∧ w'.cell? ⟨b, 1, none⟩ = some (.int .i64 bs.length)) (go_keep)
    ((go_at_call 56; refine (fresh_owns rv (pack bs) _ (by exact HRD.out _ (by repeat (first | exact Below.refl _ _ | apply Below.drew | exact Nat.le_refl _ | apply Below.alloc))) HBB.out).mono ?_; rintro e w1 ⟨v1, rfl, ho, hg⟩; obtain ⟨a1, c1, hv1⟩ := own_form ho; subst hv1; have k0 := hg.below.1.cell (p := ⟨b, 0, none⟩) (by simp; omega); have k1 := hg.below.1.cell (p := ⟨b, 1, none⟩) (by simp; omega); have k2 := fun (o : Nat) (h : w.heap.size < _) => hg.below.1.cell (p := ⟨w.heap.size, o, none⟩) h; have k3 := fun (o : Nat) (h : w.heap.size < _) => hg.below.1.frozen (p := ⟨w.heap.size, o, none⟩) h))
  · have hbel := hg.below
    have HB1 : Hid (Below w.heap.size w w1) := ((Below.refl w.heap.size w).drew).trans hbel.1
    have HF1 : Hid (∀ k, (Value.slice a1 (pack bs).length c1).ownBlock = some k → w.heap.size ≤ k) := hbel.2
    have HO1 : Hid (Owns .u8 5 w1 (Value.slice a1 (pack bs).length c1) (pack bs)) := ho
    clear hbel ho hg k0 k1 k2 k3 n0 n1 c0 d1
    go_wp2_with fail
    refine (add_any _ (Value.slice a1 (pack bs).length c1) 1 bs _ ?hw1 (by omega) (.inr rfl)).mono ?_
    case hw1 => exact ⟨heap_alloc_new w1 _, HO1.out.below ((Below.refl _ _).alloc (Nat.le_refl _) _), H.out.bits⟩
    rintro e w2 ⟨rfl, rv2, h2, h3, h4⟩
    have c0' := h2.c0
    have HR : Hid (Owns .u8 5 w2 rv2 (pack (bs ++ [1])) ∧ Below w.heap.size w w2 ∧ ∀ k, rv2.ownBlock = some k → w.heap.size ≤ k) := by
      have hs := HB1.out.size
      refine ⟨h2.own, ?_, fun k hk => ?_⟩
      · refine Below.trans (b := w1) HB1.out (Tch.below (S := fun k => k = w1.heap.size ∨ (Value.slice a1 (pack bs).length c1).ownBlock = some k) ?_ hs ?_)
        · refine Tch.trans (S' := fun k => k = w1.heap.size ∨ (Value.slice a1 (pack bs).length c1).ownBlock = some k) ?_ h3 (fun _ _ e => e)
          exact (Tch.refl _ w1).alloc _
        · rintro k (rfl | e)
          · exact hs
          · exact HF1.out k e
      · rcases h4 k hk with e | e
        · exact HF1.out k e
        · simp at e; omega
    clear h2 h3 h4
    go_wp2_with fail
    go_ret
    exact ⟨rv2, rfl, HR.out⟩
  · have hbel := hg.below
    have HB1 : Hid (Below w.heap.size w w1) := by
      have h1 : Below w.heap.size w (w.alloc (.cells #[Value.slice none 0 0, Value.int .i64 0] 98)).drew := ((Below.refl w.heap.size w).alloc (Nat.le_refl _) _).drew
      exact h1.trans (hbel.1.mono h1.size)
    have HF1 : Hid (∀ k, (Value.slice a1 (pack bs).length c1).ownBlock = some k → w.heap.size + 1 ≤ k) := fun k hk => by have := hbel.2 k hk; simpa using this
    have HO1 : Hid (Owns .u8 5 w1 (Value.slice a1 (pack bs).length c1) (pack bs)) := ho
    have HK1 : Hid (w1.heap[w.heap.size]? = some (.cells #[Value.slice none 0 0, Value.int .i64 0] 98 (0, 0))) := by
      have := hbel.1.block w.heap.size (by simp)
      rw [this]
      exact heap_alloc_new w _
    clear hbel ho hg k0 k1 k2 k3 n0 n1 c0 d1
    go_wp2_with fail
    refine (add_any _ (Value.slice a1 (pack bs).length c1) 1 bs _ ?hw2 (by omega) (.inr rfl)).mono ?_
    case hw2 =>
      refine wr_fresh _ _ _ _ _ bs HK1.out HO1.out H.out.bits (fun e => ?_)
      have := HF1.out _ e
      omega
    rintro e w2 ⟨rfl, rv2, h2, h3, h4⟩
    have c0' := h2.c0
    have HR : Hid (Owns .u8 5 w2 rv2 (pack (bs ++ [1])) ∧ Below w.heap.size w w2 ∧ ∀ k, rv2.ownBlock = some k → w.heap.size ≤ k) := by
      have hs := HB1.out.size
      refine ⟨h2.own, ?_, fun k hk => ?_⟩
      · refine Below.trans (b := w1) HB1.out (Tch.below (S := fun k => k = w.heap.size ∨ (Value.slice a1 (pack bs).length c1).ownBlock = some k) ?_ hs ?_)
        · refine Tch.trans (S' := fun k => k = w.heap.size ∨ (Value.slice a1 (pack bs).length c1).ownBlock = some k) ?_ h3 (fun _ _ e => e)
          exact Tch.setCell (Tch.setCell (Tch.refl _ w1) (fun _ => .inl rfl) _) (fun _ => .inl rfl) _
        · rintro k (rfl | e)
          · exact Nat.le_refl _
          · have := HF1.out k e; omega
      · rcases h4 k hk with e | e
        · have := HF1.out k e; omega
        · simp at e; omega
    clear h2 h3 h4
    go_wp2_with fail
    go_ret
    exact ⟨rv2, rfl, HR.out⟩
end Go.Proofs.Ytcmnhgefeffcpaa
