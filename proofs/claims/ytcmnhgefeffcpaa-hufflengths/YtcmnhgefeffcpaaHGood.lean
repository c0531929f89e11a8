/-
  Of bits that are such a row of bytes just these bytes are told.
-/
import Derived.Test.YtcmnhgefeffcpaaHUniq
import Derived.Test.YtcmnhgefeffcpaaHLens
namespace Go.Proofs.Ytcmnhgefeffcpaa
open Go.RowKit Pl Hf
set_option linter.unusedVariables false

/-- Of bits that are such a row of bytes, with nothing behind them, just these bytes are told. -/
theorem decode_good {ls ys out : List Int} {q : Nat} {n : Int} {w w' : World} {e : Ending} (hm : mayC ls = true) (hr : Rn ls (unpack ys) out q) (hn : (out.length : Int) = n) (hn2 : n ≤ 65536) (hq : q ≤ 8 * ys.length) (hL : 8 * ys.length - q < 8) (hz : val (unpack ys) q ((8 * ys.length - q) % 8) = 0)
    (h : DPost ls ys n w e w') : ∃ rv, e = .returned (.tuple #[rv, .int .i64 0]) ∧ Below w.heap.size w w' ∧ (∀ k, rv.ownBlock = some k → w.heap.size ≤ k) ∧ Owns .u8 5 w' rv out := by
  have hk := LOk.of hm
  have hbits := bits_unpack ys
  obtain ⟨rv, E, rfl, hb, hf, h⟩ := h
  rcases h with ⟨_, _, h⟩ | ⟨rfl, _, _, _, out', q', h1, h2, _, _, _, ho⟩
  · exfalso
    rcases h with ⟨_, h⟩ | ⟨_, _, h⟩ | ⟨_, _, _, _, h⟩
    · rw [hm] at h; cases h
    · omega
    · rcases h with ⟨o, p, h1, h2, h3⟩ | ⟨o, p, h1, h2, h3⟩
      · obtain ⟨q1, t, c, g1, g2, g3, g4⟩ := rn_split hk hr o.length (by omega)
        obtain ⟨_, rfl⟩ := rn_det hk hbits h1 g1 (by rw [List.length_take]; omega)
        exact h3 t g4 (by omega) ⟨c, g2⟩
      · obtain ⟨_, rfl⟩ := rn_det hk hbits h1 hr (by omega)
        rcases h3 with h3 | h3
        · omega
        · exact h3 hz
  · obtain ⟨rfl, rfl⟩ := rn_det hk hbits h1 hr (by omega)
    exact ⟨rv, rfl, hb, hf, ho⟩
end Go.Proofs.Ytcmnhgefeffcpaa
