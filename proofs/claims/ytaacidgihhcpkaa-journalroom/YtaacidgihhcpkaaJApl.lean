/-
  What appends do, plainly: a record's pieces, written one behind the other.
-/
import Derived.Test.YtaacidgihhcpkaaJPl
import Derived.Test.YtaacidgihhcpkaaJSml
import Derived.Test.YtaacidgihhcpkaaDPwP
namespace Go.Proofs.Ytaacidgihhcpkaa
open Go.RowKit Pl
set_option linter.unusedVariables false

/-- A record's piece. -/
def chk (ys : List Int) (i : Nat) : List Int := (ys.drop (232 * i)).take 232
def pcA (g n : Nat) (ys : List Int) (i : Nat) : Pc := ⟨i, npc ys.length, g, n, chk ys i⟩
/-- So many pieces are written. -/
def jap (s : DS) (g n a : Nat) (ys : List Int) : Nat → DS
  | 0 => s
  | k + 1 => (jap s g n a ys k).wr (a + k) (jsec (pcA g n ys k))

theorem chk_len (ys : List Int) (i : Nat) : (chk ys i).length = min 232 (ys.length - 232 * i) := by simp [chk]
theorem chk_by {ys : List Int} (h : By ys) (i : Nat) : By (chk ys i) := (h.dropB _).take _
theorem npc_le {l i : Nat} (h : i < npc l) : 232 * i ≤ l := by unfold npc at h; split at h <;> omega
theorem npc_top (l : Nat) : l ≤ 232 * npc l := by unfold npc; split <;> omega
theorem npc_cases (l : Nat) : (l = 0 ∧ npc l = 1) ∨ (0 < l ∧ npc l = (l - 1) / 232 + 1) := by
  unfold npc
  by_cases h : l = 0
  · left; rw [if_pos h]; exact ⟨h, rfl⟩
  · right; rw [if_neg h]; exact ⟨by omega, rfl⟩
theorem pcA_may {g n : Nat} {ys : List Int} {i : Nat} (hi : i < npc ys.length) : mayP (pcA g n ys i) = true := by
  have hl := chk_len ys i
  have hn := npc_cases ys.length
  rw [mayP_iff]
  refine ⟨hi, ?_, ?_⟩
  · show lst (pcA g n ys i) ≤ (chk ys i).length
    unfold lst
    show (if npc ys.length = 1 then 0 else if i + 1 < npc ys.length then 232 else 1) ≤ _
    generalize npc ys.length = N at *
    split
    · omega
    · split <;> omega
  · show (chk ys i).length ≤ 232
    omega
theorem pcA_ok {g n : Nat} {ys : List Int} {i : Nat} (hi : i < npc ys.length) (hn : npc ys.length ≤ 48) (hg : g < 4294967296) (hm : n < 4294967296) : OkR (pcA g n ys i) :=
  ⟨by show i < 256; omega, by show npc _ < 256; omega, hg, hm, by show (chk ys i).length ≤ 240; rw [chk_len]; omega⟩
theorem chk_all (ys : List Int) : ∀ k, (List.range k).flatMap (chk ys) = ys.take (232 * k)
  | 0 => by simp
  | k + 1 => by
    rw [List.range_succ, List.flatMap_append, chk_all ys k]
    simp only [List.flatMap_cons, List.flatMap_nil, List.append_nil, chk]
    rw [show 232 * (k + 1) = 232 * k + 232 by omega, List.take_add]
theorem chk_whole (ys : List Int) : (List.range (npc ys.length)).flatMap (chk ys) = ys := by
  rw [chk_all, List.take_of_length_le (npc_top _)]

theorem wr_c (s : DS) (i : Nat) (x : List Int) : (s.wr i x).c = s.c := by
  unfold DS.wr DS.tick
  split <;> rfl
theorem wr_V {s : DS} (hc : s.c = false) (i : Nat) (x : List Int) : (s.wr i x).V = vput s.V i (s.V i ++ [x]) := by
  unfold DS.wr
  rw [if_pos (by simp [DS.can, hc])]
theorem wr_Vle (s : DS) (i : Nat) (x : List Int) (j : Nat) : ((s.wr i x).V j).length ≤ (s.V j).length + 1 := by
  unfold DS.wr
  split
  · show (vput s.V i (s.V i ++ [x]) j).length ≤ _
    unfold vput
    split
    · rename_i h; subst h; simp
    · omega
  · omega
theorem wr_has {s : DS} (hc : s.c = false) (i : Nat) (x : List Int) (j : Nat) : (s.wr i x).has j = if j = i then x else s.has j := by
  unfold DS.has
  rw [wr_V hc, wr_L]
  unfold vput
  split
  · rename_i h; subst h; simp
  · rfl
section
variable (s : DS) (g n a : Nat) (ys : List Int)
theorem jap_L : ∀ k, (jap s g n a ys k).L = s.L
  | 0 => rfl
  | k + 1 => by rw [jap, wr_L, jap_L k]
theorem jap_c : ∀ k, (jap s g n a ys k).c = s.c
  | 0 => rfl
  | k + 1 => by rw [jap, wr_c, jap_c k]
theorem jap_V : ∀ k j, ((jap s g n a ys k).V j).length ≤ (s.V j).length + k
  | 0, j => by simp [jap]
  | k + 1, j => by
    have h1 := wr_Vle (jap s g n a ys k) (a + k) (jsec (pcA g n ys k)) j
    have h2 := jap_V k j
    rw [jap]
    omega
theorem jap_has (hc : s.c = false) : ∀ k j, (jap s g n a ys k).has j = if a ≤ j ∧ j < a + k then jsec (pcA g n ys (j - a)) else s.has j
  | 0, j => by rw [if_neg (by omega)]; rfl
  | k + 1, j => by
    rw [jap, wr_has (by rw [jap_c]; exact hc), jap_has hc k j]
    by_cases h1 : j = a + k
    · rw [if_pos h1, if_pos (by omega), h1, Nat.add_sub_cancel_left]
    · rw [if_neg h1]
      by_cases h2 : a ≤ j ∧ j < a + k
      · rw [if_pos h2, if_pos (by omega)]
      · rw [if_neg h2, if_neg (by omega)]
end
end Go.Proofs.Ytaacidgihhcpkaa
