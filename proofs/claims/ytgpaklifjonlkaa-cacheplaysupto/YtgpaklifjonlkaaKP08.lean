import Derived.Test.YtgpaklifjonlkaaKP07
import Derived.Test.YtgpaklifjonlkaaKP05
import Derived.Laws.IdiomCopy
import Derived.Lib.SlBuf
/-
  Rows of ints: searched by a function value, one taken out, those taken out that a function value says; a copy.
-/
namespace Go.Proofs.Ytgpaklifjonlkaa
open Go.RowKit Go.Sort Go.Shelf
set_option linter.unusedVariables false
set_option linter.unusedSimpArgs false
set_option maxRecDepth 100000

abbrev OwnsK (w : World) (v : Value) (xs : List Int) : Prop := Owns .i64 3 w v xs

/-- A row's cells are laid anew. -/
theorem owns_laid {w : World} {g n cap : Nat} {xs ys : List Int} (q : Nat) (h : OwnsK w (.slice (some ⟨g, 0, none⟩) n cap) xs) (hl : ys.length = xs.length) {m : Nat} (hm : m ≤ ys.length) :
    OwnsK ((w.drewN q).setCells g 0 (ys.map (Value.int .i64))) (.slice (some ⟨g, 0, none⟩) m cap) (ys.take m) ∧ Tch (fun k => k = g) w ((w.drewN q).setCells g 0 (ys.map (Value.int .i64))) := by
  have h' : w.ownsRow 0 3 1 (.slice (some ⟨g, 0, none⟩) n cap) xs.length (xs.map (Value.int .i64)) := h
  have t0 : Tch (fun k => k = g) w (w.drewN q) := ⟨rfl, rfl, rfl, Nat.le_refl _, fun _ _ _ => rfl⟩
  refine ⟨?_, t0.trans (setCells_tchD g _ 0 _) (fun _ _ e => e)⟩
  rcases h'.2 with ⟨e, _⟩ | ⟨g', c, cur, e, _, hg, h1, h2, h3, h4⟩
  · cases e
  · simp only [Value.slice.injEq, Option.some.injEq, Addr.mk.injEq, and_true] at e
    obtain ⟨rfl, rfl, rfl⟩ := e
    have hs := heap_setCells_same (ys.map (Value.int .i64)) 0 (w.drewN q) cur hg (by rw [List.length_map]; omega)
    have hl2 : (ys.take m).length = m := by rw [List.length_take]; omega
    refine ⟨by simp, .inr ⟨g, cap, _, by rw [hl2], Nat.zero_le _, hs, by omega, h2, ?_, ?_⟩⟩
    · simp only [List.size_toArray, List.length_append, List.length_take, List.length_drop, List.length_map, Array.length_toList]
      omega
    · rw [hl2]
      simp only [List.take_zero, List.nil_append, List.length_map, Nat.zero_add, Nat.mul_one]
      rw [List.take_append_of_le_length (by rw [List.length_map]; omega), List.map_take]

/-- One is taken out. -/
theorem del_any (v : Value) (xs : List Int) (i : Nat) (w : World) (h : OwnsK w v xs) (hi : i < xs.length) :
    Calls Try.prog 72 #[v, .int .i64 (i : Int), .int .i64 ((i : Int) + 1)] w fun e w' => ∃ v', e = .returned v' ∧ OwnsK w' v' (xs.eraseIdx i) ∧ v'.ownBlock = v.ownBlock ∧ Tch (fun k => v.ownBlock = some k) w w' := by
  obtain ⟨g, cap, rfl, hg, hc1, hc2, hc, hf⟩ := h.shape (by omega)
  have H := AnyG.slices_Delete_int_cells Try.delA g 0 xs.length cap i (i + 1) xs w (Nat.le_refl _) hc1 (by unfold maxLen at hc2; omega) (by omega) (by omega) (fun j hj => by rw [Nat.zero_add]; exact hc j hj) (fun j _ => by rw [Nat.zero_add]; exact hf j)
  refine H.mono ?_
  rintro e w' ⟨rfl, q, rfl⟩
  have e1 : (List.take xs.length xs).take i ++ (List.take xs.length xs).drop (i + 1) ++ List.replicate (i + 1 - i) 0 = xs.eraseIdx i ++ [0] := by
    rw [List.take_of_length_le (Nat.le_refl _), List.eraseIdx_eq_take_drop_succ, show i + 1 - i = 1 by omega]
    rfl
  rw [e1]
  have hle : (xs.eraseIdx i).length = xs.length - 1 := by rw [List.length_eraseIdx, if_pos hi]
  have := owns_laid q h (ys := xs.eraseIdx i ++ [0]) (by rw [List.length_append, hle, List.length_singleton]; omega) (m := xs.length - (i + 1 - i)) (by rw [List.length_append, hle]; omega)
  rw [List.take_append_of_le_length (by omega), List.take_of_length_le (by omega)] at this
  exact ⟨_, rfl, this.1, rfl, this.2.mono (fun k _ e => by rw [e]; rfl)⟩

/-- The place of the first that is so. -/
def Fst (p : Int → Bool) (xs : List Int) (z : Int) : Prop :=
  (z = -1 ∧ ∀ j, j < xs.length → p (xs.getD j 0) = false) ∨ ∃ k, k < xs.length ∧ z = (k : Int) ∧ p (xs.getD k 0) = true ∧ ∀ j, j < k → p (xs.getD j 0) = false

theorem idx_any (g : Nat) (lb : Array Value) (p : Int → Bool) (v : Value) (xs : List Int) (w : World) (h : OwnsK w v xs) (eg : ∀ args w, (callFunc g args).run Try.prog w = .ok (.enter g args) w) (hp : PredAt Try.prog g lb (Value.int .i64) p w) :
    Calls Try.prog 66 #[v, .func (.func g) #[] lb] w fun e w' => ∃ z, e = .returned (.int .i64 z) ∧ Fst p xs z ∧ ∃ q, w' = w.drewN q := by
  by_cases h0 : xs.length = 0
  · have hx : xs = [] := List.eq_nil_of_length_eq_zero h0
    subst hx
    obtain ⟨a, cap, rfl, _⟩ := h.rd
    refine (AnyE.slices_IndexFunc_empty Try.idxA a cap _ w).mono ?_
    rintro e w' ⟨rfl, rfl⟩
    exact ⟨-1, rfl, .inl ⟨rfl, fun j hj => by simp at hj⟩, 0, rfl⟩
  · obtain ⟨b, cap, rfl, hg, hc1, hc2, hc, hf⟩ := h.shape (by omega)
    have H := AnyE.slices_IndexFunc (α := Int) Try.idxA (Value.int .i64) p g lb eg b 0 xs.length cap xs w hp (Nat.le_refl _) (by unfold maxLen at hc2; omega) (fun j hj => by
      rw [Nat.zero_add, hc j hj, List.getD_eq_getElem?_getD, List.getElem?_eq_getElem hj, getElem!_pos xs j hj]
      rfl)
    refine H.mono ?_
    rintro e w' ⟨rfl, q, rfl⟩
    rw [List.take_of_length_le (Nat.le_refl _)]
    have gd : ∀ j, j < xs.length → xs[j]! = xs.getD j 0 := fun j hj => by rw [List.getD_eq_getElem?_getD, List.getElem?_eq_getElem hj, getElem!_pos xs j hj]; rfl
    refine ⟨_, rfl, ?_, q, rfl⟩
    rcases idxByFrom_spec (fun _ y => p y) (default : Int) xs 0 with ⟨e1, ha⟩ | ⟨k, hk, e1, ht, ha⟩
    · exact .inl ⟨e1, fun j hj => by rw [← gd j hj]; exact ha j hj⟩
    · exact .inr ⟨k, hk, by unfold Lib.idxBy; rw [e1]; simp, by rw [← gd k hk]; exact ht, fun j hj => by rw [← gd j (by omega)]; exact ha j hj⟩

/-- A number below 4096, as a value. -/
def encF (i : Fin 4096) : Value := .int .i64 (i.val : Int)
theorem encF_one : OneCell encF := fun _ => rfl

/-- Those are taken out that the function value says, whatever the row holds meanwhile. -/
theorem delf_any (g : Nat) (lb : Array Value) (p : Fin 4096 → Bool) (v : Value) (xs : List Nat) (w : World) (h : OwnsK w v (xs.map Int.ofNat)) (hx : ∀ n, n ∈ xs → n < 4096) (eg : ∀ args w, (callFunc g args).run Try.prog w = .ok (.enter g args) w)
    (hp : ∀ (W : World) (x : Fin 4096), (∀ k, k < w.heap.size → v.ownBlock ≠ some k → W.heap[k]? = w.heap[k]?) → FnGives Try.prog g lb #[encF x] (.bool (p x)) W) :
    Calls Try.prog 38 #[v, .func (.func g) #[] lb] w fun e w' => ∃ v', e = .returned v' ∧ OwnsK w' v' ((xs.filter fun n => !p (Fin.ofNat 4096 n)).map Int.ofNat) ∧ v'.ownBlock = v.ownBlock ∧ Tch (fun k => v.ownBlock = some k) w w' := by
  by_cases h0 : v = .slice none 0 0
  · subst h0
    have hl : (xs.map Int.ofNat).length = 0 := by
      obtain ⟨a, cap, e, _⟩ := h.rd
      simp only [Value.slice.injEq] at e
      omega
    have hx0 : xs = [] := by simpa using hl
    subst hx0
    have HI := hideP (AnyE.slices_IndexFunc_empty Try.idxA none 0 (.func (.func g) #[] lb) w)
    clear hp h
    go_enter Try.func38, Try.ntmps38
    go_wp2_with fail
    refine HI.out.mono ?_
    rintro e w' ⟨rfl, rfl⟩
    go_wp2_with fail
    go_ret
    exact ⟨_, rfl, owns_nil _ _ _, rfl, Tch.refl _ _⟩
  · obtain ⟨b, cap, hv, hc1, hc2, hH⟩ : ∃ b cap, v = .slice (some ⟨b, 0, none⟩) xs.length cap ∧ xs.length ≤ cap ∧ cap ≤ maxLen ∧ Holds encF w b 0 (xs.map (Fin.ofNat 4096)).toArray := by
      have h' : w.ownsRow 0 3 1 v (xs.map Int.ofNat).length ((xs.map Int.ofNat).map (Value.int .i64)) := h
      rcases h'.2 with ⟨e, _⟩ | ⟨g', c, cur, e, _, hg, h1, h2, h3, h4⟩
      · exact absurd e h0
      · refine ⟨g', c, by rw [e]; simp, by simpa using h1, h2, fun j hj => ?_⟩
        have hj' : j < xs.length := by simpa using hj
        subst e
        refine ⟨?_, by rw [Nat.zero_add]; exact h'.frozenAt j⟩
        rw [Nat.zero_add, h'.cellAt j (by simpa using hj')]
        have : xs[j] < 4096 := hx _ (List.getElem_mem hj')
        simp [encF, hj', Nat.mod_eq_of_lt this]
    subst hv
    have hsz : (xs.map (Fin.ofNat 4096)).toArray.size = xs.length := by simp
    have hother : ∀ (n : Nat) (os : Array Obj) (dk : Array (Fin 4096)), dk.size = (xs.map (Fin.ofNat 4096)).toArray.size → ∀ k, k < w.heap.size → k ≠ b → (sortWorld encF w b 0 n dk os).heap[k]? = w.heap[k]? := fun n os dk hd k hk hne => by
      unfold sortWorld
      have e := Lib.putRow_eq_setCells encF w b 0 (xs.map (Fin.ofNat 4096)).toArray dk.toList n hH (by simpa using hd)
      rw [Array.toArray_toList] at e
      rw [e]
      have t1 := setCells_tchD b (dk.toList.map encF) 0 (w.drewN n)
      rw [Sort.heap_grow_old _ _ (Nat.lt_of_lt_of_le hk t1.size), t1.block k hk hne]
      rfl
    have H := AnyE.slices_DeleteFunc (α := Fin 4096) Try.delfA encF encF_one p g lb eg 0 (fun w => Try.zeroValue3 w) b 0 cap (xs.map (Fin.ofNat 4096)).toArray w (fun W x hb => hp W x (fun k hk _ => hb.block k hk)) (fun n os dk x hd => hp _ x (fun k hk hne => hother n os dk hd k hk (fun e => hne (by rw [e]; rfl)))) hH (by rw [hsz]; unfold maxLen at hc2; omega) (by rw [hsz]; exact hc1)
    rw [hsz] at H
    refine H.mono ?_
    rintro e w' ⟨rfl, q, rfl⟩
    obtain ⟨ys, hys⟩ : ∃ ys, xs.filter (fun n => !p (Fin.ofNat 4096 n)) = ys := ⟨_, rfl⟩
    have hyl : ys.length ≤ xs.length := by rw [← hys]; exact List.length_filter_le _ _
    have e1 : List.filter (fun x => !p x) (xs.map (Fin.ofNat 4096)).toArray.toList = ys.map (Fin.ofNat 4096) := by
      rw [← hys, List.toList_toArray, List.filter_map]
      rfl
    rw [e1, Lib.putRow_eq_setCells encF w b 0 (xs.map (Fin.ofNat 4096)).toArray _ q hH (by simp; omega)]
    have hmem : ∀ n, n ∈ ys → n < 4096 := fun n hn => hx n (by rw [← hys] at hn; exact (List.mem_filter.1 hn).1)
    have e2 : (ys.map (Fin.ofNat 4096) ++ List.replicate (xs.length - (ys.map (Fin.ofNat 4096)).length) 0).map encF = (ys.map Int.ofNat ++ List.replicate (xs.length - ys.length) 0).map (Value.int .i64) := by
      rw [List.map_append, List.map_append, List.map_map, List.map_map, List.length_map, List.map_replicate, List.map_replicate]
      congr 1
      refine List.map_congr_left (fun n hn => ?_)
      have := hmem n hn
      simp [encF, Nat.mod_eq_of_lt this]
    rw [e2, List.length_map]
    have := owns_laid q h (ys := ys.map Int.ofNat ++ List.replicate (xs.length - ys.length) 0) (by simp; omega) (m := ys.length) (by simp)
    rw [List.take_append_of_le_length (by simp), List.take_of_length_le (by simp)] at this
    rw [hys]
    exact ⟨_, rfl, this.1, rfl, this.2.mono (fun k _ e => by rw [e]; rfl)⟩

/-- A copy. -/
theorem cloneK_any (v : Value) (xs : List Int) (w : World) (h : Rd .i64 w v xs) (hl : xs.length ≤ 100000) :
    Calls Try.prog 40 #[v] w fun e w' => ∃ rv, e = .returned rv ∧ OwnsK w' rv xs ∧ Below w.heap.size w w' ∧ ∀ k, rv.ownBlock = some k → w.heap.size ≤ k := by
  have H : Hid (Rd .i64 w v xs) := h
  have q22 : ∀ (w : World) (a : Option Addr) (n c n' c' : Nat), (binOp .eql 41 (.slice a n c) (.slice none n' c')).run Try.prog w = .ok (.bool a.isNone) w := fun w a n c n' c' => Lib.run_eql_slice_nil w _ _ a n c n' c' Try.underlying41
  obtain ⟨a, cap, rfl, h1, h2, h3, h4⟩ := h
  cases a with
  | none =>
    have hc0 := h3 rfl
    subst hc0
    have hx : xs = [] := List.eq_nil_of_length_eq_zero (by omega)
    subst hx
    clear h1 h2 h3 h4 H
    simp only [List.length_nil]
    go_enter Try.func40, Try.ntmps40
    go_wp2
    go_ret
    exact ⟨_, rfl, owns_nil _ _ _, Below.refl _ _, fun k e => by cases e⟩
  | some ad =>
    have HE : Hid (OwnsK (w.alloc (.cells #[] 3)) (.slice (some ⟨w.heap.size, 0, none⟩) 0 0) []) := World.ownsRow_lit w #[] 0 (Nat.zero_le _) (by unfold maxLen; omega) rfl
    have HR : Hid (Rd .i64 (w.alloc (.cells #[] 3)) (.slice (some ad) xs.length cap) xs) := H.out.below ((Below.refl _ _).alloc (Nat.le_refl _) _)
    have E8 : Hid (Elem Try.prog 41 3 .i64 8) := ⟨Try.underlying41, info_parts (z := .int .i64 0) (size := 1) (bytes := 8) (by kernel_rfl)⟩
    clear h1 h2 h3 h4
    go_enter Try.func40, Try.ntmps40
    go_wp2_with (at_builtin; refine wpList_many _ rfl (.tmp 5) (.tmp 6) 41 rfl 3 .i64 8 E8.out _ [] rfl HE.out _ xs rfl HR.out (by simp; omega) (by simp; omega) ?_)
    intro v1 w1 ho hg
    have hb : Below w.heap.size w w1 := ((Below.refl _ _).alloc (Nat.le_refl _) _).trans (hg.tch.below (by simp) (fun k e => by simp only [Value.ownBlock, Option.some.injEq] at e; omega))
    have HN : Hid (OwnsK w1 v1 xs ∧ ∀ k, v1.ownBlock = some k → w.heap.size ≤ k) := by
      refine ⟨by simpa using ho, (fun k hk => ?_)⟩
      rcases hg.fresh k hk with e | e
      · simp only [Value.ownBlock, Option.some.injEq] at e; omega
      · simp at e; omega
    have HB : Hid (Below w.heap.size w w1) := hb
    clear ho hg hb
    go_wp2_with fail
    go_ret
    exact ⟨v1, rfl, HN.out.1, HB.out, HN.out.2⟩
end Go.Proofs.Ytgpaklifjonlkaa
