/-
  An append within a region that draws its order: what lay there stays.
-/
import Derived.Test.YtfdnlkhipjjnbaaRow
import Derived.Deep.RegionHeld3
namespace Go.Proofs.Ytfdnlkhipjjnbaa
open Go.RowKit Pl
set_option linter.unusedVariables false

/-- Each cell that lay ahead of the new one is as it was. -/
def Stays (w w' : World) (v : Value) (n : Nat) : Prop := ∀ b off x, w.cell? ⟨b, off, none⟩ = some x → (v.ownBlock = some b → off < n) → w'.cell? ⟨b, off, none⟩ = some x

section
variable {P : Program}
theorem run_push (w : World) (t ty e : TypeId) (k : IntKind) (bytes : Nat) (E : Elem P t e k bytes) (v : Value) (xs : List Int) (hown : Owns k e w v xs) (y : Int) (g0 : Nat) (hy : w.cell? ⟨g0, 0, none⟩ = some (.int k y))
    (h63 : xs.length + 1 ≤ maxLen) (hbytes : (xs.length + 1) * bytes ≤ 140737488355328) :
    ∃ v' w', (Builtin.append_ #[t, t] ty #[v, .slice (some ⟨g0, 0, none⟩) 1 1]).run P w = .ok v' w' ∧ Owns k e w' v' (xs ++ [y]) ∧ Grew w w' v v' ∧ Stays w w' v xs.length := by
  obtain ⟨ht, i, hi, hz, hsize, hby⟩ := E
  have hsrc : Src w (.slice (some ⟨g0, 0, none⟩) 1 1) [.int k y] := by
    refine ⟨_, 1, rfl, fun u hu => by simp at hu; subst hu; rfl, (fun e => by cases e), fun ad ha j u hu => ?_⟩
    obtain rfl := Option.some.inj ha
    match j, hu with
    | 0, hu => simp at hu; subst hu; simpa [Addr.add] using hy
  have hown' : w.ownsRow 0 e 1 v (xs.map (Value.int k)).length (xs.map (Value.int k)) := by unfold Owns at hown; simpa using hown
  obtain ⟨v', w', hr, ho, hg, hf⟩ := run_app (P := P) w t ty e i (.int k 0) bytes ht hi hz hsize hby rfl v (xs.map (Value.int k)) hown' _ [.int k y] hsrc (by simpa using h63) (by simpa using hbytes)
  have hO : Owns k e w' v' (xs ++ [y]) := by unfold Owns; simpa using ho
  refine ⟨v', w', hr, hO, ⟨(Tch.refl _ w).grown hg (fun _ _ e => e), hf⟩, fun b off x hc hb => ?_⟩
  have hnews : ∀ j u, ([.int k y] : List Value)[j]? = some u → w.cell? ((⟨g0, 0, none⟩ : Addr).add j) = some u := fun j u hu => by
    match j, hu with
    | 0, hu => simp at hu; subst hu; simpa [Addr.add] using hy
  by_cases hob : v.ownBlock = some b
  · have hoff := hb hob
    rcases hown'.2 with ⟨rfl, h0⟩ | ⟨g, cap, cur, rfl, _, hgg, hnc, hcm, hcs, htake⟩
    · cases hob
    · have hgb : g = b := by simpa [Value.ownBlock] using hob
      subst hgb
      rw [List.length_map] at hr hnc
      by_cases hroom : xs.length + 1 ≤ cap
      · have hr2 := run_append_room (P := P) w t ty e i ht hi g xs.length cap cur hgg ⟨g0, 0, none⟩ 1 1 [.int k y] (by rw [hsize]; rfl) hnews (fun u hu => by simp at hu; subst hu; rfl) hroom (by rw [hsize, hcs]; simp; omega)
        have e2 := hr.symm.trans hr2
        simp only [Result.ok.injEq] at e2
        obtain ⟨rfl, _⟩ := e2
        obtain ⟨g', cap', hv', _, _, _, hcell, _⟩ := hO.shape (by simp)
        simp only [Value.slice.injEq, Option.some.injEq, Addr.mk.injEq] at hv'
        obtain ⟨⟨rfl, _⟩, _⟩ := hv'
        have h1 := hcell off (by simp; omega)
        rw [h1]
        obtain ⟨g2, cap2, hv2, _, _, _, hcell2, _⟩ := hown.shape (by omega)
        simp only [Value.slice.injEq, Option.some.injEq, Addr.mk.injEq] at hv2
        obtain ⟨⟨rfl, _⟩, _⟩ := hv2
        have h2 := hcell2 off hoff
        rw [h2] at hc
        rw [← hc, List.getD_eq_getElem?_getD, List.getD_eq_getElem?_getD, List.getElem?_append_left hoff]
      · obtain ⟨v2, w2, hr2, _, hg2⟩ := run_append_arg_grows (P := P) w t ty e i (.int k 0) 1 bytes ht hi hz hsize hby rfl (by decide) ⟨g, 0, none⟩ xs.length cap (xs.map (Value.int k)) (by simp) (hown'.cells (g := g) rfl) ⟨g0, 0, none⟩ 1 1 [.int k y] rfl hnews (by omega) h63 hbytes
        have e2 := hr.symm.trans hr2
        simp only [Result.ok.injEq] at e2
        obtain ⟨_, rfl⟩ := e2
        have hlt := World.block_lt_of_cell? w ⟨g, off, none⟩ hc
        rw [World.cell?_of_block (w := w) (hg2.block g hlt (by simp))]
        exact hc
  · have hlt := World.block_lt_of_cell? w ⟨b, off, none⟩ hc
    rw [World.cell?_of_block (w := w) (hg.block b hlt (fun e => hob e.symm))]
    exact hc

theorem step_push {ops : Array Oper} {o : Oper} {a : Act} {w : World} {K : Act → World → Prop} {Q : Exit → Act → World → Prop} {E : Prop} (hgd : o.guard = none) (s x : Operand) (t : TypeId)
    (ho : o.op = .call { callee := .builtin .append, args := #[s, x], argTypes := #[t, t] }) (e : TypeId) (k : IntKind) (bytes : Nat) (El : Elem P t e k bytes)
    (v : Value) (xs : List Int) (hs : a.eval s = v) (hown : Owns k e w v xs) (y : Int) (g0 : Nat) (hx : a.eval x = .slice (some ⟨g0, 0, none⟩) 1 1) (hy : w.cell? ⟨g0, 0, none⟩ = some (.int k y))
    (h63 : xs.length + 1 ≤ maxLen) (hbytes : (xs.length + 1) * bytes ≤ 140737488355328)
    (h : ∀ v' w', Owns k e w' v' (xs ++ [y]) → Grew w w' v v' → Stays w w' v xs.length → K (a.put o.dst v') w') :
    if Region.wanted o (yielded ops a.tmps) = true then Oper.wp P o a w K Q else E := by
  have hw : Region.wanted o (yielded ops a.tmps) = true := by simp [Region.wanted, hgd]
  rw [if_pos hw]
  obtain ⟨v', w', hr, h2, h3, h4⟩ := run_push (P := P) w t o.type e k bytes El v xs hown y g0 hy h63 hbytes
  unfold Oper.wp
  simp [execOp, ho, resolve, invoke, builtin, hs, hx, hr, Result.andThen]
  exact h v' w' h2 h3 h4
end
end Go.Proofs.Ytfdnlkhipjjnbaa
