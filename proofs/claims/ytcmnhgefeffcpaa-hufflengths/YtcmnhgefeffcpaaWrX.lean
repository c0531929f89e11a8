/-
  What a writer tells.
-/
import Derived.Test.YtcmnhgefeffcpaaWrF
namespace Go.Proofs.Ytcmnhgefeffcpaa
open Go.RowKit Pl
set_option linter.unusedVariables false

theorem len_any (b : Nat) (rv : Value) (bs : List Int) (w : World) (h : Wr w b rv bs) :
    Calls Try.prog 97 #[.pointer (some ⟨b, 0, none⟩)] w fun e w' => e = .returned (.int .i64 bs.length) ∧ w' = w := by
  have c1 := h.c1
  clear h
  go_enter Try.func97, Try.ntmps97
  go_wp2
  go_ret
  exact ⟨rfl, rfl⟩

theorem bytes_any (b : Nat) (rv : Value) (bs : List Int) (w : World) (h : Wr w b rv bs) (hb : bs.length ≤ 1125899906842000) :
    Calls Try.prog 46 #[.pointer (some ⟨b, 0, none⟩)] w fun e w' => ∃ v', e = .returned v' ∧ w'.ownsRow 0 5 1 v' (pack bs).length ((pack bs).map (Value.int .u8)) ∧
      Below w.heap.size w w' ∧ ∀ k, v'.ownBlock = some k → w.heap.size ≤ k := by
  have c0 := h.c0
  have H : Hid (Wr w b rv bs) := h
  clear h
  go_enter Try.func46, Try.ntmps46
  go_wp2_with fail
  refine (fresh_any rv (pack bs) w (rd_of_owns H.out.own) (by rw [pack_length]; omega)).mono ?_
  rintro e w1 ⟨v', rfl, h1, h2, h3⟩
  go_wp2
  go_ret
  exact ⟨v', rfl, h1, h2, h3⟩

end Go.Proofs.Ytcmnhgefeffcpaa
