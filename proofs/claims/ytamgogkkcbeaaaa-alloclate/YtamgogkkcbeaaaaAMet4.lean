/-
  The map's Settle.
-/
import Derived.Test.YtamgogkkcbeaaaaAMet3
namespace Go.Proofs.Ytamgogkkcbeaaaa
open Go.RowKit Ah
set_option linter.unusedVariables false
set_option maxRecDepth 100000

namespace Ah
theorem ext_G {l1 l2 : List Int} (hl : l1.length = l2.length) (h : ∀ i, i < l1.length → G l1 i = G l2 i) : l1 = l2 := by
  apply List.ext_getElem hl
  intro i h1 h2
  have := h i h1
  simpa [G, List.getD_eq_getElem?_getD, h1, h2] using this

/-- Some are free, one behind the other. -/
def zs (s : St) (l : List Int) : St := l.foldl (fun (s : St) (n : Int) => put s (n - s.lo).toNat 0) s

theorem zs_snoc (s : St) (l : List Int) (n : Int) : zs s (l ++ [n]) = put (zs s l) (n - (zs s l).lo).toNat 0 := by simp [zs]

theorem zs_keep (l : List Int) : ∀ s : St, (zs s l).lo = s.lo ∧ (zs s l).L.length = s.L.length ∧ (zs s l).as = s.as := by
  induction l with
  | nil => exact fun s => ⟨rfl, rfl, rfl⟩
  | cons n l ih =>
    intro s
    obtain ⟨h1, h2, h3⟩ := ih (put s (n - s.lo).toNat 0)
    exact ⟨h1, by have : (zs s (n :: l)).L.length = _ := h2; rw [this]; simp [put], h3⟩

theorem zs_get (l : List Int) : ∀ s : St, (∀ n ∈ l, ∃ i : Nat, i < s.L.length ∧ n = ((s.lo + i : Nat) : Int)) → ∀ i, i < s.L.length → G (zs s l).L i = if ((s.lo + i : Nat) : Int) ∈ l then 0 else G s.L i := by
  induction l with
  | nil => intro s _ i hi; simp [zs]
  | cons n l ih =>
    intro s h i hi
    obtain ⟨j, hj, rfl⟩ := h n (by simp)
    have e : (((s.lo + j : Nat) : Int) - s.lo).toNat = j := by omega
    have h1 : G (zs s (((s.lo + j : Nat) : Int) :: l)).L i = G (zs (put s j 0) l).L i := by simp only [zs, List.foldl_cons, e]
    have h2 := ih (put s j 0) (fun n hn => by
      obtain ⟨k, hk, e⟩ := h n (List.mem_cons_of_mem _ hn)
      exact ⟨k, by simpa [put] using hk, e⟩) i (by simpa [put] using hi)
    rw [h1, h2]
    have h3 : G (put s j 0).L i = if i = j then 0 else G s.L i := G_set _ _ _ _ hj
    rw [h3]
    have h4 : (put s j 0).lo = s.lo := rfl
    rw [h4]
    simp only [List.mem_cons]
    by_cases hm : ((s.lo + i : Nat) : Int) ∈ l
    · rw [if_pos hm, if_pos (.inr hm)]
    · rw [if_neg hm]
      by_cases hij : i = j
      · subst hij; rw [if_pos rfl, if_pos (.inl rfl)]
      · rw [if_neg hij, if_neg]
        rintro (e | e)
        · omega
        · exact hm e

theorem zs_all {s : St} {bk : List Int} (k : Ks 2 s bk) : zs s bk = stl s := by
  obtain ⟨h1, h2, h3⟩ := zs_keep bk s
  have hb : ∀ n ∈ bk, ∃ i : Nat, i < s.L.length ∧ n = ((s.lo + i : Nat) : Int) := fun n hn => by
    obtain ⟨i, hi, e, _⟩ := k.idx (by omega) hn
    exact ⟨i, hi, e⟩
  have hL : (zs s bk).L = (stl s).L := by
    apply ext_G
    · rw [h2]; simp [stl]
    · intro i hi
      rw [h2] at hi
      rw [zs_get bk s hb i hi, stl_get s i hi]
      by_cases e : G s.L i = 2
      · rw [if_pos e, if_pos ((k.mem _).2 (by rw [stv_in hi]; exact e))]
      · rw [if_neg e, if_neg (fun hm => e (by rw [← stv_in hi]; exact (k.mem _).1 hm))]
  cases hz : zs s bk with
  | mk lo L az =>
    rw [hz] at h1 h3 hL
    simp only [stl] at h1 h3 hL ⊢
    simp [h1, h3, hL]
end Ah

set_option maxHeartbeats 1000000 in
theorem settle_any (M : Nat) (s : St) (X : Nat → Prop) (w : World) (H : Pm w M s X) :
    Calls Try.prog 26 #[mp M] w fun e w' => e = .returned (.tuple #[]) ∧ Pm w' M (stl s) (ext w w' X) ∧ Tch X w w' := by
  obtain ⟨vs, v, u, vb, ns, bk, h, hx, hl⟩ := H
  have HH : Hid (PmAt w M s vs v u vb ns bk) := h
  have HX : Hid (∀ k, Px M vs v u vb k → X k) := hx
  have HL : Hid (∀ k, X k → k < w.heap.size) := hl
  have c3 := h.c3
  have HBR : Hid (Rd .i64 w vb bk) := h.bo.rd
  obtain ⟨ab, capb, rfl, hcap, hmax, _⟩ := h.bo.rd
  have hb9 : bk.length ≤ 65536 := by
    have h1 := h.kb.len
    have h2 := List.count_le_length (a := (2 : Int)) (l := s.L)
    have := h.pf.top
    omega
  obtain ⟨mb, hmb⟩ : ∃ m, Hid (bk.length = m) := ⟨_, rfl⟩
  rw [hmb.out] at c3 hb9 HH HX HBR hcap
  unfold maxLen at hmax
  clear h hx hl
  go_enter Try.func26, Try.ntmps26
  go_wp2_with fail
  go_loopw [9] (fun i wr => ∃ (k : Nat) (v' : Value) (ns' : List Int), k ≤ mb ∧ i = .int .i64 k ∧ Hid (Pf wr M (zs s (bk.take k)) vs v' u [.slice ab mb capb, .int .i64 s.as] ns') ∧ Hid (∀ k, v'.ownBlock = some k → v.ownBlock = some k ∨ w.heap.size ≤ k) ∧ Hid (Tch (fun k => k = M ∨ vs.ownBlock = some k ∨ v.ownBlock = some k ∨ u.ownBlock = some k) w wr)) (fun i _ => mb - (intOf i).toNat)
  case atStart => exact ⟨0, v, ns, Nat.zero_le _, rfl, HH.out.pf, fun _ e => .inl e, Tch.refl _ _⟩
  case round =>
    obtain ⟨k, v', ns', hk, rfl, HP, HV, HT⟩ := hrel
    by_cases hkm : k < mb
    · have HBR2 : Rd .i64 wr (.slice ab mb capb) bk := HBR.out.tch HT.out (fun j hj e => by
        rcases e with e | e | e | e
        · exact HH.out.neB hj e
        · exact HH.out.sb e hj
        · exact HH.out.a1 j hj e
        · exact HH.out.a2 j hj e)
      have hbl := hmb.out
      obtain ⟨a2, cap2, e2, _, _, _, hcells⟩ := HBR2
      rw [hmb.out] at e2
      cases e2
      obtain ⟨bb, ob, rfl, hcl⟩ : ∃ b o, ab = some ⟨b, o, none⟩ ∧ ∀ i, i < bk.length → wr.cell? ⟨b, o + i, none⟩ = some (.int .i64 (bk.getD i 0)) := by
        rcases hcells with e | e
        · rw [e] at hbl; simp at hbl; omega
        · exact e
      have ck := hcl k (by omega)
      have hmem : bk.getD k 0 ∈ bk := G_mem (by omega)
      obtain ⟨i, hi, hnk, hg2⟩ := HH.out.kb.idx (by omega) hmem
      rw [hnk] at ck
      have HNK : Hid (bk.getD k 0 = ((s.lo + i : Nat) : Int)) := hnk
      obtain ⟨q1, q2, q3⟩ := zs_keep (bk.take k) s
      have hb : ∀ n ∈ bk.take k, ∃ i : Nat, i < s.L.length ∧ n = ((s.lo + i : Nat) : Int) := fun n hn => by
        obtain ⟨i, hi, e, _⟩ := HH.out.kb.idx (by omega) (List.mem_of_mem_take hn)
        exact ⟨i, hi, e⟩
      have hnot : ((s.lo + i : Nat) : Int) ∉ bk.take k := by
        intro hm
        obtain ⟨j, hj, e⟩ := List.mem_iff_getElem.1 hm
        rw [List.length_take] at hj
        rw [List.getElem_take] at e
        have hnd := HH.out.kb.nd
        rw [List.nodup_iff_pairwise_ne, List.pairwise_iff_getElem] at hnd
        refine hnd j k (by omega) (by omega) (by omega) ?_
        rw [e, ← hnk]
        simp [List.getD_eq_getElem?_getD, show k < bk.length by omega]
      have HG2 : Hid (G (zs s (bk.take k)).L i ≠ 0) := by
        show _ ≠ _
        rw [zs_get _ s hb i hi, if_neg hnot, hg2]
        omega
      have HI : Hid (i < (zs s (bk.take k)).L.length) := by show _ < _; rw [q2]; exact hi
      have HLO : Hid ((zs s (bk.take k)).lo = s.lo) := q1
      have HTK : Hid (zs s (bk.take (k + 1)) = put (zs s (bk.take k)) i 0) := by
        show _ = _
        have hk2 : k < bk.length := by omega
        rw [List.take_succ_eq_append_getElem hk2, zs_snoc, q1]
        have : bk[k] = ((s.lo + i : Nat) : Int) := by rw [← hnk]; simp [List.getD_eq_getElem?_getD, hk2]
        rw [this]
        congr 1
        omega
      obtain ⟨t, ht⟩ : ∃ t, Hid (s.lo + i = t) := ⟨_, rfl⟩
      rw [ht.out] at ck
      clear hcells hcl hmem hi hnk hg2 q1 q2 q3 hb hnot hbl
      go_wp2_with fail
      rw [← ht.out, ← HLO.out]
      refine (letFree_any M (zs s (bk.take k)) vs v' u _ ns' i wr HP.out HI.out HG2.out).mono ?_
      rintro e w2 ⟨rfl, v2, ns2, hp2, hf2, ht2⟩
      rw [← HTK.out] at hp2
      have HP2 : Hid (Pf w2 M (zs s (bk.take (k + 1))) vs v2 u [.slice (some ⟨bb, ob, none⟩) mb capb, .int .i64 s.as] ns2) := hp2
      have hsz := HT.out.size
      have HV2 : Hid (∀ k, v2.ownBlock = some k → v.ownBlock = some k ∨ w.heap.size ≤ k) := fun j hj => by
        rcases hf2 j hj with e | e
        · exact HV.out j e
        · exact .inr (by omega)
      have HT2 : Hid (Tch (fun k => k = M ∨ vs.ownBlock = some k ∨ v.ownBlock = some k ∨ u.ownBlock = some k) w w2) := HT.out.trans ht2 (fun j hj e => by
        rcases e with e | e | e | e
        · exact .inl e
        · exact .inr (.inl e)
        · rcases HV.out j e with e | e
          · exact .inr (.inr (.inl e))
          · omega
        · exact .inr (.inr (.inr e)))
      clear hp2 hf2 ht2 hsz HP HV HT ck
      go_wp2_with fail
      go_roundw
      case rel => exact ⟨k + 1, v2, ns2, by omega, by first | rfl | go_num, HP2, HV2, HT2⟩
      case measure => simp [intOf]; omega
    · have hkm' : k = mb := by omega
      have HP2 : Hid (Pf wr M (stl s) vs v' u [.slice ab mb capb, .int .i64 s.as] ns') := by
        have := HP.out
        rw [hkm', ← hmb.out, List.take_length, zs_all HH.out.kb] at this
        rw [← hmb.out]
        exact this
      have hd : decide (k < mb) = false := by simp; omega
      have c3' : wr.cell? ⟨M, 3, none⟩ = some (.slice ab mb capb) := by rw [cell_of_row wr M 3 _ _ (0, 0) HP.out.fr.blk]; rfl
      have f3' := HP.out.fz 3
      have HKM : Hid (k = mb) := hkm'
      clear hkm'
      go_wp2_with fail
      go_end0
      have P3 := HP2.out.post 0 (.slice none 0 0)
      refine ⟨rfl, Pm.made HX.out HL.out (v' := v') (ns' := ns') (bk' := []) ⟨P3, owns_nil _ _ _, ⟨fun n => ⟨fun e => by simp at e, fun e => ?_⟩, ?_, by simp⟩, (fun k hk => by cases hk), (fun k hk => by cases hk), stl_ok HH.out.ok⟩ HV.out (fun k hk => by cases hk) ?_⟩
      · obtain ⟨i, hi, _, e3⟩ := stv_idx (s := stl s) (n := n) (by omega)
        have hi' : i < s.L.length := by simpa [stl] using hi
        rw [stl_get s i hi'] at e3
        have := HH.out.ok.val i hi'
        split at e3 <;> omega
      · have := (stl_cnt s.L).2
        simp only [stl, List.length_nil]
        omega
      · exact Tch.setCell (p := ⟨M, 3, none⟩) (tch_P HT.out) (fun _ => .inl rfl) _
end Go.Proofs.Ytamgogkkcbeaaaa
