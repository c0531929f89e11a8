/-
  The free numbers' own calls, for container/heap: how many, which is less, two change places.
-/
import Derived.Test.YtamgogkkcbeaaaaRow0
import Derived.Test.YtamgogkkcbeaaaaAHeap
namespace Go.Proofs.Ytamgogkkcbeaaaa
open Go.RowKit Ah
set_option linter.unusedVariables false
set_option maxRecDepth 100000

theorem elem64 : Elem Try.prog 41 3 .i64 8 := ⟨Try.underlying41, info_parts (z := .int .i64 0) (size := 1) (bytes := 8) (by kernel_rfl)⟩

abbrev OwnsI (w : World) (v : Value) (xs : List Int) : Prop := Owns .i64 3 w v xs

/-- Where the free numbers' two fields lie: a block, its type, what stands ahead of them and behind. -/
structure Fb where
  b : Nat
  t : TypeId
  pre : List Value
  post : List Value

/-- The numbers ns, and where each stands, in rows of their own; L: how many places there are. -/
structure Fr (w : World) (F : Fb) (v u : Value) (L : Nat) (ns : List Int) : Prop where
  blk : w.heap[F.b]? = some (.cells (F.pre ++ v :: u :: F.post).toArray F.t (0, 0))
  ht : F.t ≠ 3
  own : OwnsI w v ns
  pls : ∃ ps, ps.length = L ∧ OwnsI w u ps ∧ Pls ns ps
  ap : ∀ k, v.ownBlock = some k → u.ownBlock ≠ some k

theorem block_of_ownsA {w : World} {e : TypeId} {size : Nat} {v : Value} {n : Nat} {xs : List Value} (h : w.ownsRow 0 e size v n xs) {k : Nat} (hk : v.ownBlock = some k) : ∃ cur, w.heap[k]? = some (.cells cur e (0, 0)) := by
  rcases h.2 with ⟨rfl, _⟩ | ⟨g, cap, cur, rfl, _, hg, _⟩
  · cases hk
  · simp only [Value.ownBlock, Option.some.injEq] at hk
    subst hk
    exact ⟨cur, hg⟩

theorem owns_neA {k : IntKind} {e : TypeId} {w : World} {v : Value} {xs : List Int} (h : Owns k e w v xs) {b : Nat} {cs : Array Value} {t : TypeId} (hb : w.heap[b]? = some (.cells cs t (0, 0))) (ht : t ≠ e) {j : Nat} (hj : v.ownBlock = some j) : j ≠ b := by
  intro e
  subst e
  obtain ⟨c1, h1⟩ := block_of_ownsA (w := w) h hj
  rw [h1] at hb
  simp at hb
  exact ht hb.2.symm

section
variable {w : World} {F : Fb} {v u : Value} {L : Nat} {ns : List Int}

theorem Fr.c0 (H : Fr w F v u L ns) : w.cell? ⟨F.b, F.pre.length, none⟩ = some v := by
  rw [cell_of_row w F.b F.pre.length _ _ (0, 0) H.blk]; simp
theorem Fr.c1 (H : Fr w F v u L ns) : w.cell? ⟨F.b, F.pre.length + 1, none⟩ = some u := by
  rw [cell_of_row w F.b (F.pre.length + 1) _ _ (0, 0) H.blk]; simp
theorem Fr.fz (H : Fr w F v u L ns) (i : Nat) : w.frozen? ⟨F.b, i, none⟩ = false := frozen_of_row w F.b i _ _ H.blk
theorem Fr.lt (H : Fr w F v u L ns) : F.b < w.heap.size := (Array.getElem?_eq_some_iff.1 H.blk).1
theorem Fr.ne (H : Fr w F v u L ns) {k : Nat} (hk : v.ownBlock = some k) : k ≠ F.b := owns_neA H.own H.blk H.ht hk
theorem Fr.neu (H : Fr w F v u L ns) {k : Nat} (hk : u.ownBlock = some k) : k ≠ F.b := by
  obtain ⟨ps, _, ho, _⟩ := H.pls
  exact owns_neA ho H.blk H.ht hk
theorem Fr.tch {S : Nat → Prop} {w' : World} (H : Fr w F v u L ns) (ht : Tch S w w') (hb : ¬ S F.b) (hv : ∀ k, v.ownBlock = some k → ¬ S k) (hu : ∀ k, u.ownBlock = some k → ¬ S k) : Fr w' F v u L ns := by
  obtain ⟨ps, hl, ho, hp⟩ := H.pls
  exact ⟨by rw [ht.block F.b H.lt hb]; exact H.blk, H.ht, H.own.tch ht hv, ⟨ps, hl, ho.tch ht hu, hp⟩, H.ap⟩
theorem Fr.still (H : Fr w F v u L ns) {w' : World} (ht : Tch (fun _ => False) w w') : Fr w' F v u L ns := H.tch ht (fun e => e) (fun _ _ e => e) (fun _ _ e => e)
theorem Fr.len (H : Fr w F v u L ns) : ∃ a cap, v = .slice a ns.length cap := by
  obtain ⟨a, cap, e, _⟩ := H.own.rd
  exact ⟨a, cap, e⟩
/-- Which blocks a heap's calls may turn. -/
def Fs (F : Fb) (v u : Value) (k : Nat) : Prop := k = F.b ∨ v.ownBlock = some k ∨ u.ownBlock = some k
end

abbrev fp (F : Fb) : Value := .pointer (some ⟨F.b, F.pre.length, none⟩)

theorem fLen_any (b o : Nat) (a : Option Addr) (n cap : Nat) (w : World) (c0 : w.cell? ⟨b, o, none⟩ = some (.slice a n cap)) :
    Calls Try.prog 36 #[.pointer (some ⟨b, o, none⟩)] w fun e w' => e = .returned (.int .i64 n) ∧ w' = w := by
  go_enter Try.func36, Try.ntmps36
  go_wp2_with fail
  go_ret
  exact ⟨rfl, rfl⟩

set_option maxHeartbeats 1000000 in
theorem fLess_any (F : Fb) (v u : Value) (L : Nat) (ns : List Int) (i j : Nat) (x y : Int) (b : Bool) (w : World) (H : Fr w F v u L ns) (hi : i < ns.length) (hj : j < ns.length) (hx : x = i) (hy : y = j) (hb : decide (G ns i < G ns j) = b) :
    Calls Try.prog 65 #[fp F, .int .i64 x, .int .i64 y] w fun e w' => e = .returned (.bool b) ∧ Fr w' F v u L ns ∧ Tch (fun _ => False) w w' := by
  subst hx; subst hy
  have HH : Hid (Fr w F v u L ns) := H
  obtain ⟨g, cap, rfl, _, hcap, hmax, hc, _⟩ := H.own.shape (by omega)
  have c0 := hc i hi
  have d0 := hc j hj
  have ch := H.c0
  obtain ⟨X, hX⟩ : ∃ X, Hid (ns.getD i 0 = X) := ⟨_, rfl⟩
  obtain ⟨Y, hY⟩ : ∃ Y, Hid (ns.getD j 0 = Y) := ⟨_, rfl⟩
  obtain ⟨m, hm⟩ : ∃ m, Hid (ns.length = m) := ⟨_, rfl⟩
  have HB : Hid (decide (X < Y) = b) := by
    show _ = _
    rw [← hb]
    exact decide_eq_decide.2 (by unfold G; rw [hX.out, hY.out])
  rw [hX.out] at c0
  rw [hY.out] at d0
  rw [hm.out] at hi hj hcap ch
  clear hb
  obtain ⟨fb, ft, fpre, fpost⟩ := F
  simp only [fp] at ch ⊢
  obtain ⟨o, ho⟩ : ∃ o, Hid (fpre.length = o) := ⟨_, rfl⟩
  rw [ho.out] at ch ⊢
  clear hc H
  unfold maxLen at hmax
  go_enter Try.func65, Try.ntmps65
  go_wp2_with fail
  go_quiet (fail)
  go_wp2_with fail
  go_ret
  exact ⟨by have := HB.out; subst this; rfl, HH.out.still ⟨rfl, rfl, rfl, Nat.le_refl _, fun _ _ _ => rfl⟩, ⟨rfl, rfl, rfl, Nat.le_refl _, fun _ _ _ => rfl⟩⟩

/-- What two stores among the numbers and two among the places leave. -/
theorem Fr.swapped {w w' : World} {F : Fb} {g m cap q m2 cap2 L : Nat} {ns ps : List Int} {i j X Y : Nat} (H : Fr w F (.slice (some ⟨g, 0, none⟩) m cap) (.slice (some ⟨q, 0, none⟩) m2 cap2) L ns)
    (hpo : OwnsI w (.slice (some ⟨q, 0, none⟩) m2 cap2) ps) (hpl : ps.length = L) (hpp : Pls ns ps) (hi : i < ns.length) (hj : j < ns.length) (hX : G ns i = X) (hY : G ns j = Y)
    (he : w'.heap = ((((w.setCell ⟨g, i, none⟩ (.int .i64 Y)).setCell ⟨g, j, none⟩ (.int .i64 X)).setCell ⟨q, Y, none⟩ (.int .i64 i)).setCell ⟨q, X, none⟩ (.int .i64 j)).heap) (ho : w'.os = w.os) (ht : w'.tape = w.tape) (hu : w'.output = w.output) :
    Fr w' F (.slice (some ⟨g, 0, none⟩) m cap) (.slice (some ⟨q, 0, none⟩) m2 cap2) L (swp ns i j) ∧ Tch (fun k => (Value.slice (some ⟨g, 0, none⟩) m cap).ownBlock = some k ∨ (Value.slice (some ⟨q, 0, none⟩) m2 cap2).ownBlock = some k) w w' := by
  have gb : g ≠ F.b := H.ne rfl
  have qb : q ≠ F.b := H.neu rfl
  have gq : g ≠ q := fun e => H.ap g rfl (by rw [e]; rfl)
  have T1 : Tch (fun k => k = g) w ((w.setCell ⟨g, i, none⟩ (.int .i64 Y)).setCell ⟨g, j, none⟩ (.int .i64 X)) := Tch.setCell (Tch.setCell (Tch.refl (fun k => k = g) w) (p := ⟨g, i, none⟩) (fun _ => rfl) _) (p := ⟨g, j, none⟩) (fun _ => rfl) _
  have O1 : OwnsI ((w.setCell ⟨g, i, none⟩ (.int .i64 Y)).setCell ⟨g, j, none⟩ (.int .i64 X)) (.slice (some ⟨g, 0, none⟩) m cap) (swp ns i j) := by unfold swp; rw [hX, hY]; exact (H.own.set i Y).set j X
  have P1 := hpo.tch T1 (fun k hk e => gq (by cases hk; exact e.symm))
  generalize hW : (w.setCell ⟨g, i, none⟩ (.int .i64 Y)).setCell ⟨g, j, none⟩ (.int .i64 X) = W at *
  have T2 : Tch (fun k => k = q) W ((W.setCell ⟨q, Y, none⟩ (.int .i64 i)).setCell ⟨q, X, none⟩ (.int .i64 j)) := Tch.setCell (Tch.setCell (Tch.refl (fun k => k = q) W) (p := ⟨q, Y, none⟩) (fun _ => rfl) _) (p := ⟨q, X, none⟩) (fun _ => rfl) _
  have P2 : OwnsI ((W.setCell ⟨q, Y, none⟩ (.int .i64 i)).setCell ⟨q, X, none⟩ (.int .i64 j)) (.slice (some ⟨q, 0, none⟩) m2 cap2) ((ps.set Y i).set X j) := (P1.set Y i).set X j
  have O2 := O1.tch T2 (fun k hk e => gq (by cases hk; exact e))
  have T : Tch (fun k => (Value.slice (some ⟨g, 0, none⟩) m cap).ownBlock = some k ∨ (Value.slice (some ⟨q, 0, none⟩) m2 cap2).ownBlock = some k) w ((W.setCell ⟨q, Y, none⟩ (.int .i64 i)).setCell ⟨q, X, none⟩ (.int .i64 j)) :=
    (T1.mono (fun k _ e => .inl (by rw [e]; rfl))).trans T2 (fun k _ e => .inr (by rw [e]; rfl))
  have T' : Tch (fun k => (Value.slice (some ⟨g, 0, none⟩) m cap).ownBlock = some k ∨ (Value.slice (some ⟨q, 0, none⟩) m2 cap2).ownBlock = some k) w w' :=
    ⟨ho, ht, hu, by rw [he]; exact T.size, fun k hk hn => by rw [he]; exact T.block k hk hn⟩
  have Z : Tch (fun _ => False) ((W.setCell ⟨q, Y, none⟩ (.int .i64 i)).setCell ⟨q, X, none⟩ (.int .i64 j)) w' := ⟨by rw [ho]; exact T.os.symm, by rw [ht]; exact T.tape.symm, by rw [hu]; exact T.output.symm, by rw [he]; exact Nat.le_refl _, fun k _ _ => by rw [he]⟩
  refine ⟨⟨?_, H.ht, O2.tch Z (fun _ _ e => e), ⟨_, by simpa using hpl, P2.tch Z (fun _ _ e => e), ?_⟩, H.ap⟩, T'⟩
  · rw [T'.block F.b H.lt (fun e => by rcases e with e | e <;> simp only [Value.ownBlock, Option.some.injEq] at e <;> omega)]
    exact H.blk
  · have := hpp.swap hi hj
    rw [hX, hY] at this
    exact this

set_option maxHeartbeats 1000000 in
theorem fSwap_any (F : Fb) (v u : Value) (L : Nat) (ns : List Int) (i j : Nat) (x y : Int) (w : World) (H : Fr w F v u L ns) (hi : i < ns.length) (hj : j < ns.length) (hx : x = i) (hy : y = j) :
    Calls Try.prog 68 #[fp F, .int .i64 x, .int .i64 y] w fun e w' => e = .returned (.tuple #[]) ∧ Fr w' F v u L (swp ns i j) ∧ Tch (fun k => v.ownBlock = some k ∨ u.ownBlock = some k) w w' := by
  subst hx; subst hy
  have HH : Hid (Fr w F v u L ns) := H
  obtain ⟨ps, hpl, hpo, hpp⟩ := H.pls
  obtain ⟨i0, i1, i2⟩ := hpp i hi
  obtain ⟨j0, j1, j2⟩ := hpp j hj
  have HPO : Hid (OwnsI w u ps) := hpo
  have HPP : Hid (Pls ns ps) := hpp
  obtain ⟨g, cap, rfl, hg, hcap, hmax, hc, fz⟩ := H.own.shape (by omega)
  obtain ⟨q, cap2, rfl, hq, hcap2, hmax2, hc2, fz2⟩ := hpo.shape (by omega)
  have c0 := hc i hi
  have d0 := hc j hj
  have ch := H.c0
  have ch1 := H.c1
  have gb : g ≠ F.b := H.ne rfl
  have qb : q ≠ F.b := H.neu rfl
  have gq : g ≠ q := fun e => H.ap g rfl (by rw [e]; rfl)
  obtain ⟨X, hX⟩ : ∃ X : Nat, Hid ((ns.getD i 0).toNat = X) := ⟨_, rfl⟩
  obtain ⟨Y, hY⟩ : ∃ Y : Nat, Hid ((ns.getD j 0).toNat = Y) := ⟨_, rfl⟩
  have hX' : ns.getD i 0 = (X : Int) := by have := hX.out; have : (0 : Int) ≤ ns.getD i 0 := i0; omega
  have hY' : ns.getD j 0 = (Y : Int) := by have := hY.out; have : (0 : Int) ≤ ns.getD j 0 := j0; omega
  have hXl : X < ps.length := by rw [← hX.out]; exact i1
  have hYl : Y < ps.length := by rw [← hY.out]; exact j1
  have cX := hc2 X hXl
  have cY := hc2 Y hYl
  obtain ⟨x0, hx0⟩ : ∃ x0, Hid (ps.getD X 0 = x0) := ⟨_, rfl⟩
  obtain ⟨y0, hy0⟩ : ∃ x0, Hid (ps.getD Y 0 = x0) := ⟨_, rfl⟩
  rw [hx0.out] at cX
  rw [hy0.out] at cY
  have fi := fz i
  have fj := fz j
  have fX := fz2 X
  have fY := fz2 Y
  rw [hX'] at c0
  rw [hY'] at d0
  have HX : Hid (G ns i = X) := hX'
  have HY : Hid (G ns j = Y) := hY'
  obtain ⟨m, hm⟩ : ∃ m, Hid (ns.length = m) := ⟨_, rfl⟩
  obtain ⟨m2, hm2⟩ : ∃ m, Hid (ps.length = m) := ⟨_, rfl⟩
  have hi' := hi
  have hj' := hj
  rw [hm.out] at hi' hj' hcap ch
  rw [hm2.out] at hXl hYl hcap2 ch1
  have HI : Hid (i < ns.length ∧ j < ns.length) := ⟨hi, hj⟩
  have HL : Hid (ps.length = L) := hpl
  obtain ⟨fb, ft, fpre, fpost⟩ := F
  simp only [fp] at ch ch1 gb qb ⊢
  obtain ⟨o, ho⟩ : ∃ o, Hid (fpre.length = o) := ⟨_, rfl⟩
  rw [ho.out] at ch ch1 ⊢
  unfold maxLen at hmax hmax2
  clear hc hc2 fz fz2 H hpp hpo hX' hY' i0 i1 i2 j0 j1 j2 hX hY hi hj hpl
  by_cases hij : i = j
  · subst hij
    have e : Y = X := by have := HX.out.symm.trans HY.out; omega
    subst e
    clear hj' d0 fj fX hXl cX
    go_enter Try.func68, Try.ntmps68
    go_wp2_with fail
    go_quiet (fail)
    go_wp2_with fail
    go_region
    go_wp2_with fail
    go_region
    go_wp2_with fail
    go_end0
    exact ⟨rfl, HH.out.swapped HPO.out HL.out HPP.out HI.out.1 HI.out.2 HX.out HY.out rfl rfl rfl rfl⟩
  · have hXY : X ≠ Y := fun e => hij (HPP.out.inj HI.out.1 HI.out.2 (by rw [HX.out, HY.out, e]))
    go_enter Try.func68, Try.ntmps68
    go_wp2_with fail
    go_quiet (fail)
    go_wp2_with fail
    go_region
    go_wp2_with fail
    go_region
    go_wp2_with fail
    go_end0
    exact ⟨rfl, HH.out.swapped HPO.out HL.out HPP.out HI.out.1 HI.out.2 HX.out HY.out rfl rfl rfl rfl⟩
end Go.Proofs.Ytamgogkkcbeaaaa
