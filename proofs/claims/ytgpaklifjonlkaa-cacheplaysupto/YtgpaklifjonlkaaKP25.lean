import Derived.Test.YtgpaklifjonlkaaKP12
import Derived.Test.YtgpaklifjonlkaaKP19
/-
  The dirty ones' numbers, rising.
-/
namespace Go.Proofs.Ytgpaklifjonlkaa
open Go.RowKit Go.Maps Go.Sort Go.Shelf
set_option linter.unusedVariables false
set_option linter.unusedSimpArgs false
set_option maxRecDepth 100000

/-- A rising list is what it picks out of all. -/
theorem rising_pick {l : List Nat} {N : Nat} (h : l.Pairwise (fun a b => a < b)) (hl : ∀ n, n ∈ l → n < N) : (List.range N).filter (fun i => decide (i ∈ l)) = l := by
  refine List.Perm.eq_of_pairwise (le := fun a b => a < b) (fun a b _ _ h1 h2 => by omega) (List.Pairwise.filter _ List.pairwise_lt_range) h ?_
  refine (List.perm_ext_iff_of_nodup (List.Pairwise.filter _ List.nodup_range) (List.Pairwise.imp (fun {a b} h => Nat.ne_of_lt h) h)).2 (fun a => ?_)
  simp only [List.mem_filter, List.mem_range, decide_eq_true_eq]
  exact ⟨fun e => e.2, fun e => ⟨hl a e, e⟩⟩

/-- The keys, rising. -/
def kall (N : Nat) (s : CS) : List Nat := (List.range N).filter fun i => decide (i ∈ s.d ∨ i ∈ s.c)
theorem kall_keys {N : Nat} {s : CS} {V : Nat → Value} : intKeys (Dm N (kg s V)) = (kall N s).map Int.ofNat := by
  rw [intKeys_dm]
  unfold kall
  congr 1
  refine List.filter_congr fun i hi => ?_
  rw [Bool.eq_iff_iff, decide_eq_true_eq]
  unfold kg
  by_cases e : i ∈ s.d
  · simp [e]
  · by_cases e2 : i ∈ s.c
    · simp [e, e2]
    · simp [e, e2]
theorem kall_rising (N : Nat) (s : CS) : ((kall N s).map Int.ofNat).Pairwise (fun a b => a ≤ b) := by
  rw [List.pairwise_map]
  refine List.Pairwise.filter _ (List.Pairwise.imp (fun {a b} (h : a < b) => ?_) List.pairwise_lt_range)
  exact Int.ofNat_le.2 (Nat.le_of_lt h)
theorem sort_kall {ss : List Int} {N : Nat} {s : CS} (h : ss.Perm ((kall N s).map Int.ofNat)) : ss.mergeSort (fun x y => decide (x ≤ y)) = (kall N s).map Int.ofNat := by
  have tr : ∀ a b c : Int, decide (a ≤ b) = true → decide (b ≤ c) = true → decide (a ≤ c) = true := fun a b c h1 h2 => by simp only [decide_eq_true_eq] at *; omega
  have to : ∀ a b : Int, (decide (a ≤ b) || decide (b ≤ a)) = true := fun a b => by simp only [Bool.or_eq_true, decide_eq_true_eq]; omega
  refine List.Perm.eq_of_pairwise (le := fun a b => decide (a ≤ b) = true) (fun a b _ _ h1 h2 => by simp only [decide_eq_true_eq] at h1 h2; omega) (List.pairwise_mergeSort tr to ss) ((kall_rising N s).imp fun {a b} h => by simpa using h) ((List.mergeSort_perm ss _).trans h)
theorem kall_mem {N : Nat} {s : CS} {n : Nat} (h : n ∈ kall N s) : n < N := by
  have := (List.mem_filter.1 h).1
  simpa using this
theorem kall_dirty {N : Nat} {s : CS} (ho : COk N s) : (kall N s).filter (fun n => decide (n ∈ s.d)) = s.d := by
  unfold kall
  rw [List.filter_filter]
  refine Eq.trans ?_ (rising_pick ho.dr (fun n hn => (ho.dl n hn).2))
  refine List.filter_congr fun i _ => ?_
  by_cases e : i ∈ s.d <;> simp [e]

theorem field_dirty (k : Int) (v : Value) (b : Bool) (W : World) : (Instr.field 81 (.agg #[.int .i64 k, v, .bool b]) 1).run Try.prog W = .ok (.bool b) W := by kernel_rfl
theorem field_block (k : Int) (v : Value) (b : Bool) (W : World) : (Instr.field 81 (.agg #[.int .i64 k, v, .bool b]) 0).run Try.prog W = .ok (.agg #[.int .i64 k, v]) W := by kernel_rfl

/-- Is it clean? -/
theorem clean_gives {N : Nat} {s : CS} {V : Nat → Value} (c mb q : Nat) (x : Fin 4096) (W : World) (ho : COk N s) (h0 : W.cell? ⟨q, 0, none⟩ = some (cp c)) (h2 : W.cell? ⟨c, 2, none⟩ = some (.map (some mb))) (hM : Mp W mb N (kg s V)) (hs : ∀ n, n ∈ s.d ∨ n ∈ s.c → ∃ a m cap, V n = .slice a m cap) :
    FnGives Try.prog 39 #[.pointer (some ⟨q, 0, none⟩)] #[encF x] (.bool (!decide (x.val ∈ s.d))) W := by
  show Calls Try.prog 39 #[.int .i64 (x.val : Int), .pointer (some ⟨q, 0, none⟩)] W _
  obtain ⟨i, hi⟩ := x
  simp only
  have LK := hM.lookH (i := i) (by
    by_cases e : i < N
    · exact .inl e
    · refine .inr ?_
      unfold kg
      rw [if_neg (fun e2 => e (ho.dl i e2).2), if_neg (fun e2 => e (ho.cl i e2).2)]) (by omega)
  have R : ∀ (k : Int) (v : Value) (b : Bool), (∃ a m cap, v = .slice a m cap) → (Instr.lookup 71 (.map (some mb)) (.int .i64 (i : Int)) false).run Try.prog W = .ok (hent k v b) W → b = decide (i ∈ s.d) → Calls Try.prog 39 #[.int .i64 (i : Int), .pointer (some ⟨q, 0, none⟩)] W fun e w' => e = .returned (.bool (!decide (i ∈ s.d))) ∧ ∃ q, w' = W.drewN q := by
    rintro k v b ⟨a, m, cap, rfl⟩ hl hb
    rw [← hb]
    unfold hent at hl
    have hi2 : (i : Int) < 4096 := by omega
    have hfl := fun W => field_dirty k (.slice a m cap) b W
    clear LK hM ho hs hb
    go_enter Try.func39, Try.ntmps39
    go_wp2_with fail
    go_ret
    exact ⟨rfl, 0, rfl⟩
  unfold gh kg at LK
  by_cases e : i ∈ s.d
  · rw [if_pos e] at LK
    exact R _ _ true (hs i (.inl e)) LK (by simp [e])
  · rw [if_neg e] at LK
    by_cases e2 : i ∈ s.c
    · rw [if_pos e2] at LK
      exact R _ _ false (hs i (.inr e2)) LK (by simp [e])
    · rw [if_neg e2] at LK
      exact R _ _ false ⟨_, _, _, rfl⟩ LK (by simp [e])

set_option maxHeartbeats 400000 in
theorem dirtyK_any {X : Nat → Prop} {c d N : Nat} {s : CS} (w : World) (hC : Ch X w c d N s) :
    Calls Try.prog 13 #[cp c] w fun e w' => ∃ v, e = .returned v ∧ OwnsK w' v (s.d.map Int.ofNat) ∧ Below w.heap.size w w' ∧ ∀ k, v.ownBlock = some k → w.heap.size ≤ k := by
  obtain ⟨mb, av, V, h⟩ := hC
  have H : Hid (ChAt X w c d N s mb av V) := h
  obtain ⟨W1, hW1⟩ : ∃ W1, w.alloc (.cells #[cp c] 30) = W1 := ⟨_, rfl⟩
  have B1 : Hid (Below w.heap.size w W1) := by rw [← hW1]; exact (Below.refl _ _).alloc (Nat.le_refl _) _
  have H1 : Hid (ChAt X W1 c d N s mb av V) := h.tch (R := fun _ => False) (Tch.of_below B1.out) (fun _ _ e => e)
  have s1 : W1.heap.size = w.heap.size + 1 := by rw [← hW1]; simp
  have q0 : W1.cell? ⟨w.heap.size, 0, none⟩ = some (cp c) := by rw [← hW1, cell_of_row _ w.heap.size 0 _ _ (0, 0) (heap_alloc_new w _)]; rfl
  have c2 := H1.out.c2
  have HP : Hid (intKeys (Dm N (kg s V)) = (kall N s).map Int.ofNat) := kall_keys
  have hown := H1.out.map
  have hsz := dm_size N (kg s V)
  have n2 := h.n2
  obtain ⟨D0, hD⟩ : ∃ D, Dm N (kg s V) = D := ⟨_, rfl⟩
  unfold Mp at hown
  rw [hD] at HP hown hsz
  have HQ1 : Hid (∀ W, Below W1.heap.size W1 W → W.cell? ⟨w.heap.size, 0, none⟩ = some (cp c)) := fun W hb => by rw [Tch.cell (Tch.of_below (S := fun _ => False) hb) (p := ⟨w.heap.size, 0, none⟩) (by show w.heap.size < W1.heap.size; omega) (fun e => e)]; exact q0
  have HSL : Hid (∀ n, n ∈ s.d ∨ n ∈ s.c → ∃ a m cap, V n = .slice a m cap) := fun n hn => by obtain ⟨a, c, e, _⟩ := h.bod n hn; exact ⟨_, _, _, e⟩
  clear h hD
  refine (callsIn_wide (n := 6)).1 ?_
  have hbl := hown.lt
  have hseq : SeqGives Fence.wide 2 Try.prog 65 #[.pointer (some ⟨W1.heap.size, 0, none⟩)] encZ (fun ss => ss.Perm (intKeys D0)) (Maps.size D0) (W1.alloc (.cells #[.map (some mb)] 71)) :=
    AnyZI.keys_gives (ρ := Try.keysC_ren) { Try.keysC with } Fence.wide _ trivial rfl (by omega) W1.heap.size mb N D0 _ (by simp) (by simp) (by
      obtain ⟨es, clock, hb, Ft, hs, hD⟩ := hown
      exact ⟨es, clock, (Below.heap_alloc _ _ mb hbl).trans hb, Ft, hs, hD⟩)
  have cK : ∀ m W, CallsIn Fence.wide 5 Try.prog 37 #[.map m] W fun e w' => e = .returned (.func (.func 65) #[] #[.pointer (some ⟨W.heap.size, 0, none⟩)]) ∧ w' = W.alloc (.cells #[.map m] 71) := fun m W => AnyZI.keys_in Try.keysC Fence.wide 5 trivial rfl m W
  have cS := AnyZI.sorted_in Try.sortedA Fence.wide 5 trivial trivial trivial trivial rfl (by omega) (Try.sortsA _) (enters_of Try.func64 (by kernel_rfl) rfl) 65 #[.pointer (some ⟨W1.heap.size, 0, none⟩)] trivial (enters_of Try.func65 (by kernel_rfl) rfl) _ _ (by unfold maxLen; omega) (by omega) _ hseq
  change CallsIn _ _ Try.prog 36 _ _ _ at cS
  have hfK : Fence.wide.fn 37 := trivial
  have hfS : Fence.wide.fn 36 := trivial
  have hfD : Fence.wide.fn 38 := trivial
  have HMF : ∀ W, (Instr.makeFunc (.func 39) #[] #[.pointer (some ⟨w.heap.size, 0, none⟩)]).run Try.prog W = .ok (.func (.func 39) #[] #[.pointer (some ⟨w.heap.size, 0, none⟩)]) W := fun W => rfl
  have HD3 : Hid (∀ (w3 : World) (v : Value) (ss : List Int), ss.Perm (intKeys D0) → w3.ownsRow (W1.alloc (.cells #[.map (some mb)] 71)).heap.size 3 1 v ss.length ((ss.mergeSort (fun x y => decide (x ≤ y))).map (Value.int .i64)) → Below (W1.alloc (.cells #[.map (some mb)] 71)).heap.size (W1.alloc (.cells #[.map (some mb)] 71)) w3 →
      CallsIn Fence.wide 5 Try.prog 38 #[v, .func (.func 39) #[] #[.pointer (some ⟨w.heap.size, 0, none⟩)]] w3 fun e w' => ∃ v', e = .returned v' ∧ OwnsK w' v' (s.d.map Int.ofNat) ∧ Below w.heap.size w w' ∧ ∀ k, v'.ownBlock = some k → w.heap.size ≤ k) := fun w3 v ss hS hrow hb => by
    refine callsIn_wide.2 ?_
    rw [HP.out] at hS
    rw [sort_kall hS] at hrow
    have hl : ss.length = ((kall N s).map Int.ofNat).length := hS.length_eq
    rw [hl] at hrow
    have hlow := hrow.lt
    have hO : OwnsK w3 v ((kall N s).map Int.ofNat) := ownsRow_base_a hrow (Nat.zero_le _)
    have hsz2 : (W1.alloc (.cells #[.map (some mb)] 71)).heap.size = W1.heap.size + 1 := by simp
    have hb1 : Below W1.heap.size W1 w3 := ((Below.refl _ W1).alloc (Nat.le_refl _) _).trans (hb.mono (by omega))
    have hvn : ∀ k, v.ownBlock = some k → W1.heap.size < k := fun k hk => by have := (hlow k hk).1; omega
    have H3 : ChAt X w3 c d N s mb av V := H1.out.tch (R := fun _ => False) (Tch.of_below hb1) (fun _ _ e => e)
    have hW1lt : ∀ k, X k → k < W1.heap.size := H1.out.xlt
    refine (delf_any 39 #[.pointer (some ⟨w.heap.size, 0, none⟩)] (fun x => !decide (x.val ∈ s.d)) v (kall N s) w3 hO (fun n hn => by have := kall_mem hn; omega) (enters_of Try.func39 (by kernel_rfl) rfl) (fun W x hW => ?_)).mono ?_
    · have hx : ∀ k, k < W1.heap.size → W.heap[k]? = w3.heap[k]? := fun k hk => hW k (Nat.lt_of_lt_of_le hk hb1.size) (fun e => by have := hvn k e; omega)
      refine clean_gives c mb w.heap.size x W H1.out.ok ?_ ?_ ?_ HSL.out (V := V)
      · rw [World.cell?_of_block (w := w3) (hx w.heap.size (by omega))]; exact HQ1.out w3 hb1
      · rw [World.cell?_of_block (w := w3) (hx c (hW1lt c H1.out.xc))]; exact H3.c2
      · obtain ⟨es, clock, hq, rest⟩ := H3.map
        exact ⟨es, clock, (hx mb (hW1lt mb H1.out.xm)).trans hq, rest⟩
    · rintro e w4 ⟨v', rfl, ho4, hv4, ht4⟩
      refine ⟨v', rfl, ?_, ?_, fun k hk => ?_⟩
      · have e1 : (kall N s).filter (fun n => !(fun x : Fin 4096 => !decide (x.val ∈ s.d)) (Fin.ofNat 4096 n)) = s.d := by
          refine Eq.trans (List.filter_congr fun n hn => ?_) (kall_dirty H1.out.ok)
          have : n < 4096 := by have := kall_mem hn; omega
          simp [Nat.mod_eq_of_lt this]
        rw [e1] at ho4
        exact ho4
      · exact (B1.out.trans (hb1.mono (by omega))).trans (ht4.below (Nat.le_trans B1.out.size hb1.size) (fun k e => by have := hvn k e; omega))
      · rw [hv4] at hk
        have := hvn k hk
        omega
  clear hseq hown hbl hsz s1 HQ1 HSL H H1 HP B1
  refine callsIn_of_wp Try.func13 rfl trivial ?_ rfl
  simp only [Try.ntmps13, List.size_toArray, List.length_cons, List.length_nil, Nat.reduceAdd, Nat.reduceSub, Array.replicate_succ, Array.replicate_zero, List.push_toArray, List.append_toArray, List.nil_append, List.cons_append]
  gi_wp2_with (first
    | (gi_at_call 37; refine (cK _ _).mono ?_; rintro e w' ⟨rfl, rfl⟩)
    | (gi_at_call 36; refine cS.mono ?_; rintro e w' ⟨v, ss, rfl, hS, hrow, hnil, hb⟩; have HH := hideP (HD3.out _ _ _ hS hrow hb); clear hS hrow hnil hb HD3)
    | (gi_at_call 38; refine HH.out.mono ?_; rintro e w'' ⟨v', rfl, hfin⟩; have HFI := hideP hfin; clear hfin))
  go_ret
  exact ⟨_, rfl, HFI.out⟩
end Go.Proofs.Ytgpaklifjonlkaa
