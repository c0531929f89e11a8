/-
  The free numbers: one is added, the least is taken, any of them is taken out.
-/
import Derived.Test.YtamgogkkcbeaaaaAHp
import Derived.Test.YtamgogkkcbeaaaaAPl
namespace Go.Proofs.Ytamgogkkcbeaaaa
open Go.RowKit Ah
set_option linter.unusedVariables false
set_option maxRecDepth 100000

theorem add_any (F : Fb) (v u : Value) (L : Nat) (ns : List Int) (n : Nat) (w : World) (H : Fr w F v u L ns) (hn : n < L) (hm : (n : Int) ∉ ns) (hl : ns.length < 100000) (hh : Heap ns ns.length) :
    Calls Try.prog 42 #[fp F, .int .i64 n] w fun e w' => e = .returned (.tuple #[]) ∧
      ∃ v' qs, Fr w' F v' u L qs ∧ Heap qs qs.length ∧ qs.Perm (ns ++ [(n : Int)]) ∧ (∀ k, v'.ownBlock = some k → v.ownBlock = some k ∨ w.heap.size ≤ k) ∧ Tch (Fs F v u) w w' := by
  have HH : Hid (Fr w F v u L ns) := H
  have HP0 : Hid (Heap ns ns.length) := hh
  have HM : Hid ((n : Int) ∉ ns) := hm
  clear H hh hm
  go_enter Try.func42, Try.ntmps42
  go_wp2_with fail
  refine (hPush_any F v u L ns n w HH.out hn HM.out hl HP0.out).mono ?_
  rintro e w1 ⟨rfl, v1, qs, hp1, hh1, hq1, hf1, ht1⟩
  go_wp2_with fail
  go_end0
  exact ⟨rfl, v1, qs, hp1, hh1, hq1, hf1, ht1⟩

theorem takeLeast_any (F : Fb) (v u : Value) (L : Nat) (ns : List Int) (n : Nat) (w : World) (H : Fr w F v u L ns) (hn : ns.length = n + 1) (hl : ns.length ≤ 100000) (hh : Heap ns ns.length) :
    Calls Try.prog 40 #[fp F] w fun e w' => e = .returned (.int .i64 (G ns 0)) ∧
      ∃ v' qs, Fr w' F v' u L qs ∧ Heap qs qs.length ∧ ns.Perm (G ns 0 :: qs) ∧ v'.ownBlock = v.ownBlock ∧ Tch (Fs F v u) w w' := by
  have HH : Hid (Fr w F v u L ns) := H
  have HP0 : Hid (Heap ns ns.length) := hh
  have HN : Hid (ns.length = n + 1) := hn
  have ta : ∀ (w : World) (x : Int), (Instr.typeAssert (.iface 3 (.int .i64 x)) 20 3 false).run Try.prog w = .ok (.int .i64 x) w := fun _ _ => by kernel_rfl
  clear H hh hn
  obtain ⟨X, HX⟩ : ∃ X, Hid (G ns 0 = X) := ⟨_, rfl⟩
  rw [HX.out]
  go_enter Try.func40, Try.ntmps40
  go_wp2_with fail
  refine (hPop_any F v u L ns n w HH.out HN.out hl HP0.out).mono ?_
  rintro e w1 ⟨rfl, v1, qs, hp1, hh1, hq1, hf1, ht1⟩
  rw [HX.out] at hq1 ⊢
  have R : Hid (∃ v' qs, Fr w1 F v' u L qs ∧ Heap qs qs.length ∧ ns.Perm (X :: qs) ∧ v'.ownBlock = v.ownBlock ∧ Tch (Fs F v u) w w1) := ⟨v1, qs, hp1, hh1, hq1, hf1, ht1⟩
  clear hp1 hh1 hq1 hf1 ht1
  go_wp2_with fail
  go_ret
  exact ⟨rfl, R.out⟩

theorem remove_any (F : Fb) (v u : Value) (L : Nat) (ns : List Int) (n : Nat) (w : World) (H : Fr w F v u L ns) (hm : (n : Int) ∈ ns) (hl : ns.length ≤ 100000) (hh : Heap ns ns.length) :
    Calls Try.prog 39 #[fp F, .int .i64 n] w fun e w' => e = .returned (.tuple #[]) ∧
      ∃ v' qs, Fr w' F v' u L qs ∧ Heap qs qs.length ∧ ns.Perm ((n : Int) :: qs) ∧ v'.ownBlock = v.ownBlock ∧ Tch (Fs F v u) w w' := by
  have HH : Hid (Fr w F v u L ns) := H
  have HP0 : Hid (Heap ns ns.length) := hh
  obtain ⟨i, hi, hgi⟩ := mem_G hm
  obtain ⟨ps, hpl, hpo, hpp⟩ := H.pls
  obtain ⟨i0, i1, i2⟩ := hpp i hi
  rw [hgi] at i1 i2
  have e1 : ((n : Int)).toNat = n := by omega
  rw [e1] at i1 i2
  obtain ⟨q, cap2, rfl, hq, hcap2, hmax2, hc2, fz2⟩ := hpo.shape (by omega)
  have cX := hc2 n i1
  have hX : ps.getD n 0 = (i : Int) := i2
  rw [hX] at cX
  have ch1 := H.c1
  obtain ⟨m, hml⟩ : ∃ m, ns.length = m + 1 := ⟨ns.length - 1, by omega⟩
  have HML : Hid (ns.length = m + 1) := hml
  have HGI : Hid (G ns i = n) := hgi
  have him : i ≤ m := by omega
  obtain ⟨m2, hm2⟩ : ∃ m, Hid (ps.length = m) := ⟨_, rfl⟩
  have i1' := i1
  rw [hm2.out] at ch1 hcap2 i1'
  obtain ⟨o, ho⟩ : ∃ o, Hid (F.pre.length = o) := ⟨_, rfl⟩
  rw [ho.out] at ch1
  obtain ⟨b, hb⟩ : ∃ o, Hid (F.b = o) := ⟨_, rfl⟩
  rw [hb.out] at ch1
  unfold maxLen at hmax2
  have HFP : Hid (fp F = .pointer (some ⟨b, o, none⟩)) := by show _ = _; unfold fp; rw [ho.out, hb.out]
  rw [HFP.out]
  clear hm hh hi hgi hpl hpo hpp i0 i1 i2 e1 hc2 fz2 hX hml H
  go_enter Try.func39, Try.ntmps39
  go_wp2_with fail
  rw [← HFP.out]
  refine (hRemove_any F v _ L ns m i w HH.out HML.out hl HP0.out him).mono ?_
  rintro e w1 ⟨rfl, v1, qs, hp1, hh1, hq1, hf1, ht1⟩
  rw [HGI.out] at hq1 ⊢
  have R : Hid (∃ v' qs, Fr w1 F v' (.slice (some ⟨q, 0, none⟩) ps.length cap2) L qs ∧ Heap qs qs.length ∧ ns.Perm ((n : Int) :: qs) ∧ v'.ownBlock = v.ownBlock ∧ Tch (Fs F v (.slice (some ⟨q, 0, none⟩) ps.length cap2)) w w1) := ⟨v1, qs, hp1, hh1, hq1, hf1, ht1⟩
  clear hp1 hh1 hq1 hf1 ht1
  go_wp2_with fail
  go_end0
  exact ⟨rfl, R.out⟩
end Go.Proofs.Ytamgogkkcbeaaaa
