/-
  The document's Name.
-/
import Derived.Test.YtcjdhbiiigdmmaaDoorNxName
namespace Go.Proofs.YtcjdhbiiigdmmaaDoor
open Go.RowKit Nx
set_option linter.unusedVariables false
set_option maxRecDepth 100000

theorem refName_any (s : ByteArray) (w : World) : Calls Tryd.prog 14 #[.string s] w fun e w' => e = .returned (.bool (nameL (bl s))) ∧ Below w.heap.size w w' := by
  have hsz := bl_len s
  by_cases h1 : (s.size : Int) < 1
  · rw [name_not (.inl (by omega))]
    go_enter Tryd.func14, Tryd.ntmps14
    go_wp2_with fail
    go_ret
    exact ⟨rfl, Below.refl _ _⟩
  by_cases h2 : (16 : Int) < (s.size : Int)
  · rw [name_not (.inr (.inl (by omega)))]
    go_enter Tryd.func14, Tryd.ntmps14
    go_wp2_with fail
    go_ret
    exact ⟨rfl, Below.refl _ _⟩
  by_cases h3 : bl s = [46]
  · rw [name_not (.inr (.inr (.inl h3)))]
    have e : s = ⟨#[46]⟩ := bl_inj h3
    subst e
    clear h3 h1 h2 hsz
    go_enter Tryd.func14, Tryd.ntmps14
    go_wp2_with fail
    go_ret
    exact ⟨rfl, Below.refl _ _⟩
  by_cases h4 : bl s = [46, 46]
  · rw [name_not (.inr (.inr (.inr h4)))]
    have e : s = ⟨#[46, 46]⟩ := bl_inj h4
    subst e
    clear h4 h3 h1 h2 hsz
    go_enter Tryd.func14, Tryd.ntmps14
    go_wp2_with fail
    go_ret
    exact ⟨rfl, Below.refl _ _⟩
  · rw [name_of (by omega) (by omega) h3 h4]
    have e3 : (s.toList == [46]) = false := by rw [toList_bl]; exact beq_eq_false_iff_ne.2 h3
    have e4 : (s.toList == [46, 46]) = false := by rw [toList_bl]; exact beq_eq_false_iff_ne.2 h4
    clear h3 h4 hsz
    obtain ⟨b, hb⟩ : ∃ b, Hid ((bl s).all okb = b) := ⟨_, rfl⟩
    rw [hb.out]
    go_enter Tryd.func14, Tryd.ntmps14
    go_wp2_with fail
    clear e3 e4
    go_loopw [3] (fun i wr => ∃ (k : Nat), k ≤ s.size ∧ i = .int .i64 k ∧ Hid (((bl s).drop k).all okb = b) ∧ Hid (wr = w)) (fun i _ => s.size - (intOf i).toNat)
    case atStart => exact ⟨0, Nat.zero_le _, rfl, by rw [List.drop_zero]; exact hb, rfl⟩
    case round =>
      obtain ⟨k, hk, rfl, hz, BR⟩ := hrel
      have BR := BR.out
      subst BR
      by_cases hlt : k < s.size
      · have hd : Hid ((bl s).drop k = s[k] :: (bl s).drop (k + 1)) := by
          have : (bl s).drop k = s[k] :: (bl s).drop (k + 1) := by rw [List.drop_eq_getElem_cons (by rw [bl_len]; exact hlt), bl_getElem hlt]
          exact this
        have HB : Hid (okb s[k] = false → b = false) := fun h0 => by rw [← hz.out, hd.out, List.all_cons, h0]; rfl
        have HG : Hid (okb s[k] = true → ((bl s).drop (k + 1)).all okb = b) := fun h0 => by rw [← hz.out, hd.out, List.all_cons, h0]; simp
        by_cases g1 : (s[k].toNat : Int) < 33
        · have hF : b = false := HB.out (by unfold okb; rw [decide_eq_false (by omega)])
          subst hF
          clear HB HG hd hz
          go_wp2_with fail
          go_ret
          exact ⟨rfl, Below.refl _ _⟩
        by_cases g2 : (126 : Int) < (s[k].toNat : Int)
        · have hF : b = false := HB.out (by unfold okb; rw [decide_eq_false (by omega)])
          subst hF
          clear HB HG hd hz
          go_wp2_with fail
          go_ret
          exact ⟨rfl, Below.refl _ _⟩
        by_cases g3 : (s[k].toNat : Int) = 47
        · have hF : b = false := HB.out (by unfold okb; rw [decide_eq_false (by omega)])
          subst hF
          have g4 : ((s[k].toNat : Int) == 47) = true := by rw [g3]; rfl
          clear HB HG hd hz g3
          go_wp2_with fail
          go_ret
          exact ⟨rfl, Below.refl _ _⟩
        · have HK := hideN (HG.out (by unfold okb; rw [decide_eq_true (by omega)]))
          have g4 : ((s[k].toNat : Int) == 47) = false := beq_eq_false_iff_ne.2 g3
          clear HB HG hd hz g3
          go_wp2_with fail
          exact ⟨⟨k + 1, by omega, by simp, HK, trivial⟩, by simp [intOf]; omega⟩
      · have hF : b = true := by
          rw [← hz.out, List.drop_eq_nil_of_le (by rw [bl_len]; omega)]; rfl
        subst hF
        go_wp2_with fail
        go_ret
        exact ⟨rfl, Below.refl _ _⟩
end Go.Proofs.YtcjdhbiiigdmmaaDoor
