/-
  The document's Same of superblocks.
-/
import Derived.Test.YtdicgaepggffbaaUVer
import Derived.Laws.StructEq
import Derived.ChangeKeysEq
import Derived.Deep.QuietTactic
namespace Go.Proofs.Ytdicgaepggffbaa
open Go.RowKit Pl
set_option linter.unusedVariables false
set_option linter.unusedSimpArgs false
set_option maxRecDepth 100000

theorem und_ver : Try.prog.underlying 66 = some (.struct (Try.prog.fieldsOf 66)) := by kernel_rfl
theorem stood_ver : Try.prog.stoodInHeld 66 = false := by kernel_rfl
theorem flds_ver : ((Try.prog.fieldsOf 66).toList.map fun f => (decide (f.name = "_"), f.type, f.offset)) = [(false, 3, 0), (false, 3, 1), (false, 3, 2), (false, 4, 3)] := by kernel_rfl
theorem len4U {α : Type} {l : List α} (h : l.length = 4) : ∃ a b c d, l = [a, b, c, d] := by
  match l, h with
  | [a, b, c, d], _ => exact ⟨a, b, c, d, rfl⟩
theorem eqF_step {P : Program} (w : World) (d : Nat) (xs ys : Array Value) (f : Field) (fs : List Field) (a b : Value) (r : Bool) (hn : ¬ f.name = "_") (ha : (part f.type xs f.offset).run P w = .ok a w) (hb : (part f.type ys f.offset).run P w = .ok b w) (hr : (Op.equalIn d f.type a b).run P w = .ok r w) :
    (Op.eqFields d xs ys (f :: fs)).run P w = if r = true then (Op.eqFields d xs ys fs).run P w else .ok false w := by
  simp only [Op.eqFields, hn, ne_eq, not_false_eq_true, if_true, Sem.run_bind, ha, hb, hr, Result.andThen_ok]
  cases r <;> simp
theorem eqFlds (w : World) (d : Nat) (x y : Vn) (fs : List Field) (h : (fs.map fun f => (decide (f.name = "_"), f.type, f.offset)) = [(false, 3, 0), (false, 3, 1), (false, 3, 2), (false, 4, 3)]) :
    (Op.eqFields (d + 1) #[.int .i64 x.id, .int .i64 x.root, .int .i64 x.nx, .bool x.fx] #[.int .i64 y.id, .int .i64 y.root, .int .i64 y.nx, .bool y.fx] fs).run Try.prog w = .ok (x.id == y.id && (x.root == y.root && (x.nx == y.nx && x.fx == y.fx))) w := by
  obtain ⟨f0, f1, f2, f3, rfl⟩ := len4U (l := fs) (by have := congrArg List.length h; simpa using this)
  simp only [List.map_cons, List.map_nil, List.cons.injEq, Prod.mk.injEq, and_true, decide_eq_false_iff_not] at h
  obtain ⟨⟨n0, t0, o0⟩, ⟨n1, t1, o1⟩, ⟨n2, t2, o2⟩, n3, t3, o3⟩ := h
  have e0 : ∀ a b : Int, (Op.equalIn (d + 1) 3 (.int .i64 a) (.int .i64 b)).run Try.prog w = .ok (a == b) w := fun a b => run_equalIn_int (P := Try.prog) w d 3 .i64 .i64 a b Try.underlying3
  have e3 : ∀ a b : Bool, (Op.equalIn (d + 1) 4 (.bool a) (.bool b)).run Try.prog w = .ok (a == b) w := fun a b => run_equalIn_bool (P := Try.prog) w d 4 a b Try.underlying4
  rw [eqF_step w (d + 1) _ _ f0 _ (.int .i64 x.id) (.int .i64 y.id) (x.id == y.id) n0 (by rw [t0, o0]; exact run_part_plain w (by kernel_rfl) rfl) (by rw [t0, o0]; exact run_part_plain w (by kernel_rfl) rfl) (by rw [t0]; exact e0 _ _)]
  rw [eqF_step w (d + 1) _ _ f1 _ (.int .i64 x.root) (.int .i64 y.root) (x.root == y.root) n1 (by rw [t1, o1]; exact run_part_plain w (by kernel_rfl) rfl) (by rw [t1, o1]; exact run_part_plain w (by kernel_rfl) rfl) (by rw [t1]; exact e0 _ _)]
  rw [eqF_step w (d + 1) _ _ f2 _ (.int .i64 x.nx) (.int .i64 y.nx) (x.nx == y.nx) n2 (by rw [t2, o2]; exact run_part_plain w (by kernel_rfl) rfl) (by rw [t2, o2]; exact run_part_plain w (by kernel_rfl) rfl) (by rw [t2]; exact e0 _ _)]
  rw [eqF_step w (d + 1) _ _ f3 _ (.bool x.fx) (.bool y.fx) (x.fx == y.fx) n3 (by rw [t3, o3]; exact run_part_plain w (by kernel_rfl) rfl) (by rw [t3, o3]; exact run_part_plain w (by kernel_rfl) rfl) (by rw [t3]; exact e3 _ _)]
  generalize (x.id == y.id) = b0
  generalize (x.root == y.root) = b1
  generalize (x.nx == y.nx) = b2
  generalize (x.fx == y.fx) = b3
  cases b0 <;> cases b1 <;> cases b2 <;> cases b3 <;> simp [Op.eqFields]
theorem eq_verU (w : World) (x y : Vn) : (Op.equalIn 10000 66 (verv x) (verv y)).run Try.prog w = .ok (decide (x = y)) w := by
  unfold verv
  rw [run_equalIn_struct w 9999 66 _ _ und_ver stood_ver, eqFlds w 9998 x y _ flds_ver]
  congr 1
  obtain ⟨a, b, c, d⟩ := x
  obtain ⟨a', b', c', d'⟩ := y
  rw [Bool.eq_iff_iff]
  simp

theorem take_same {vs us : List Vn} {k : Nat} {x y : Vn} (hx : vs[k]? = some x) (hy : us[k]? = some y) (h : vs.take k = us.take k) : vs.take (k + 1) = us.take (k + 1) ↔ x = y := by
  obtain ⟨h1, e1⟩ := List.getElem?_eq_some_iff.1 hx
  obtain ⟨h2, e2⟩ := List.getElem?_eq_some_iff.1 hy
  rw [List.take_succ_eq_append_getElem h1, List.take_succ_eq_append_getElem h2, e1, e2, h]
  simp

set_option maxHeartbeats 2000000 in
theorem refSameU_any (s t : Sp) (v u : Value) (w : World) (hv : RdV w v s.vs) (hu : RdV w u t.vs) :
    Calls Try.prog 15 #[supv s v, supv t u] w fun e w' => e = .returned (.bool (decide (s = t))) ∧ Below w.heap.size w w' := by
  obtain ⟨a, ca, rfl, ha1, ha2, _⟩ := id hv
  obtain ⟨b, cb, rfl, hb1, hb2, _⟩ := id hu
  have HV : Hid (RdV w (.slice a s.vs.length ca) s.vs) := hv
  have HU : Hid (RdV w (.slice b t.vs.length cb) t.vs) := hu
  have hl63 : s.vs.length ≤ 9223372036854775807 := by unfold maxLen at ha2; omega
  have hm63 : t.vs.length ≤ 9223372036854775807 := by unfold maxLen at hb2; omega
  obtain ⟨W1, hW1⟩ : ∃ W1, w.alloc (.cells #[.int .i64 s.gen, .int .i64 s.sc, .int .i64 s.nx, .slice a s.vs.length ca] 24) = W1 := ⟨_, rfl⟩
  obtain ⟨W2, hW2⟩ : ∃ W2, W1.alloc (.cells #[.int .i64 t.gen, .int .i64 t.sc, .int .i64 t.nx, .slice b t.vs.length cb] 24) = W2 := ⟨_, rfl⟩
  have s1 : W1.heap.size = w.heap.size + 1 := by rw [← hW1]; simp
  have b1 : Below w.heap.size w W1 := by rw [← hW1]; exact (Below.refl _ _).alloc (Nat.le_refl _) _
  have b2 : Below W1.heap.size W1 W2 := by rw [← hW2]; exact (Below.refl _ _).alloc (Nat.le_refl _) _
  have B2 : Hid (Below w.heap.size w W2) := b1.trans (b2.mono (by omega))
  have U1 : Uv W1 w.heap.size s (.slice a s.vs.length ca) := by rw [← hW1]; exact uv_new w s _
  have P2 : Hid (Uv W2 w.heap.size s (.slice a s.vs.length ca)) := U1.below b2
  have R2 : Hid (Uv W2 (w.heap.size + 1) t (.slice b t.vs.length cb)) := by rw [← hW2, ← s1]; exact uv_new W1 t _
  have p0 := P2.out.c0
  have p1 := P2.out.c1
  have p2 := P2.out.c2
  have p3 := P2.out.c3
  have r0 := R2.out.c0
  have r1 := R2.out.c1
  have r2 := R2.out.c2
  have r3 := R2.out.c3
  obtain ⟨M, hM⟩ : ∃ M, Hid (decide (s = t) = M) := ⟨_, rfl⟩
  rw [hM.out]
  have HM : Hid (M = true ↔ s.gen = t.gen ∧ s.sc = t.sc ∧ s.nx = t.nx ∧ s.vs = t.vs) := by
    rw [← hM.out]
    show decide (s = t) = true ↔ _
    rw [decide_eq_true_iff]
    obtain ⟨g1, g2, g3, g4⟩ := s
    obtain ⟨k1, k2, k3, k4⟩ := t
    simp
  unfold supv
  obtain ⟨l, hl⟩ : ∃ l, Hid (s.vs.length = l) := ⟨_, rfl⟩
  obtain ⟨ge, hge⟩ : ∃ l, Hid (s.gen = l) := ⟨_, rfl⟩
  obtain ⟨sc, hsc⟩ : ∃ l, Hid (s.sc = l) := ⟨_, rfl⟩
  obtain ⟨nx, hnx⟩ : ∃ l, Hid (s.nx = l) := ⟨_, rfl⟩
  obtain ⟨m, hm⟩ : ∃ l, Hid (t.vs.length = l) := ⟨_, rfl⟩
  obtain ⟨gf, hgf⟩ : ∃ l, Hid (t.gen = l) := ⟨_, rfl⟩
  obtain ⟨sd, hsd⟩ : ∃ l, Hid (t.sc = l) := ⟨_, rfl⟩
  obtain ⟨ny, hny⟩ : ∃ l, Hid (t.nx = l) := ⟨_, rfl⟩
  rw [hge.out, hsc.out, hnx.out, hgf.out, hsd.out, hny.out] at HM
  rw [hl.out, hge.out, hsc.out, hnx.out] at hW1
  rw [hm.out, hgf.out, hsd.out, hny.out] at hW2
  rw [hl.out] at p3 hl63 HV P2
  rw [hm.out] at r3 hm63 HU R2
  rw [hge.out] at p0
  rw [hsc.out] at p1
  rw [hnx.out] at p2
  rw [hgf.out] at r0
  rw [hsd.out] at r1
  rw [hny.out] at r2
  rw [hl.out, hge.out, hsc.out, hnx.out, hm.out, hgf.out, hsd.out, hny.out]
  have HF : Hid (¬ (ge = gf ∧ sc = sd ∧ nx = ny ∧ s.vs = t.vs) → false = M) := fun h => by
    cases M with
    | false => rfl
    | true => exact absurd (HM.out.1 rfl) h
  clear hv hu ha1 ha2 hb1 hb2 b1 b2 U1
  by_cases c1 : ge = gf
  rotate_left
  · have HE := hideP (HF.out (fun h => c1 h.1))
    have d1 : (ge != gf) = true := by simp [c1]
    clear HM HF c1
    go_enter Try.func15, Try.ntmps15
    go_wp2_with fail
    go_ret
    exact ⟨by rw [← HE.out]; rfl, B2.out⟩
  subst c1
  by_cases c2 : sc = sd
  rotate_left
  · have HE := hideP (HF.out (fun h => c2 h.2.1))
    have d2 : (sc != sd) = true := by simp [c2]
    clear HM HF c2
    go_enter Try.func15, Try.ntmps15
    go_wp2_with fail
    go_ret
    exact ⟨by rw [← HE.out]; rfl, B2.out⟩
  subst c2
  by_cases c3 : nx = ny
  rotate_left
  · have HE := hideP (HF.out (fun h => c3 h.2.2.1))
    have d3 : (nx != ny) = true := by simp [c3]
    clear HM HF c3
    go_enter Try.func15, Try.ntmps15
    go_wp2_with fail
    go_ret
    exact ⟨by rw [← HE.out]; rfl, B2.out⟩
  subst c3
  by_cases c4 : l = m
  rotate_left
  · have HE := hideP (HF.out (fun h => c4 (by rw [← hl.out, ← hm.out, h.2.2.2])))
    have d4 : ((l : Int) != (m : Int)) = true := by simp; omega
    have d5 : (l != m) = true := by simp [c4]
    clear HM HF c4
    go_enter Try.func15, Try.ntmps15
    go_wp2_with fail
    go_ret
    exact ⟨by rw [← HE.out]; rfl, B2.out⟩
  subst c4
  have HMV : Hid (M = true ↔ s.vs = t.vs) := by
    show _ ↔ _
    rw [HM.out]
    simp
  clear HM HF
  go_enter Try.func15, Try.ntmps15
  go_wp2_with fail
  clear hW1 hW2 p0 p1 p2 r0 r1 r2 p3 r3 s1
  obtain ⟨g, hg⟩ : ∃ g, Hid (w.heap.size = g) := ⟨_, rfl⟩
  rw [hg.out] at P2 R2 B2 ⊢
  go_loopw [5] (fun i wr => ∃ k : Nat, k ≤ l ∧ i = .int .i64 k ∧ Hid (s.vs.take k = t.vs.take k) ∧ Hid (Below g w wr) ∧ Hid (Uv wr g s (.slice a l ca)) ∧ Hid (Uv wr (g + 1) t (.slice b l cb))) (fun i _ => l - (intOf i).toNat)
  case atStart => exact ⟨0, Nat.zero_le _, rfl, rfl, B2, P2, R2⟩
  case round =>
    clear B2 P2 R2
    obtain ⟨k, hk, rfl, HK, B, P, R⟩ := hrel
    have p3 := P.out.c3
    have r3 := R.out.c3
    by_cases hlt : k < l
    · have hkl : (k : Int) < (l : Int) := by omega
      obtain ⟨x, hx⟩ : ∃ x, s.vs[k]? = some x := ⟨_, List.getElem?_eq_getElem (by rw [hl.out]; exact hlt)⟩
      obtain ⟨y, hy⟩ : ∃ y, t.vs[k]? = some y := ⟨_, List.getElem?_eq_getElem (by rw [hm.out]; exact hlt)⟩
      obtain ⟨ab, ao, rfl, XC⟩ := HV.out.at_ (hg.out ▸ B.out : Below w.heap.size w wr) hx
      obtain ⟨bb, bo, rfl, YC⟩ := HU.out.at_ (hg.out ▸ B.out : Below w.heap.size w wr) hy
      have x0 := XC.c0
      have x1 := XC.c1
      have x2 := XC.c2
      have x3 := XC.c3
      have y0 := YC.c0
      have y1 := YC.c1
      have y2 := YC.c2
      have y3 := YC.c3
      have HTS := take_same hx hy HK.out
      by_cases e : x = y
      · have hq : ∀ W, (Op.equalIn 10000 66 (verv x) (verv y)).run Try.prog W = .ok true W := fun W => by rw [eq_verU W x y, decide_eq_true e]
        have HN : Hid (s.vs.take (k + 1) = t.vs.take (k + 1)) := HTS.2 e
        unfold verv at hq
        clear XC YC HTS e hx hy HK
        generalize x.id = xi at *
        generalize x.root = xr at *
        generalize x.nx = xn at *
        generalize x.fx = xf at *
        generalize y.id = yi at *
        generalize y.root = yr at *
        generalize y.nx = yn at *
        generalize y.fx = yf at *
        go_wp2_with fail
        go_quiet (fail)
        have B4 : Hid (Below g w (wr.drewN nq)) := B.out.trans (Below.of_drewN _ _ _)
        have P4 : Hid (Uv (wr.drewN nq) g s (.slice (some ⟨ab, ao, none⟩) l ca)) := P
        have R4 : Hid (Uv (wr.drewN nq) (g + 1) t (.slice (some ⟨bb, bo, none⟩) l cb)) := R
        go_wp2_with fail
        go_roundw
        case rel => exact ⟨k + 1, by omega, by go_num, HN, B4, P4, R4⟩
        case measure => simp [intOf]; omega
      · have hq : ∀ W, (Op.equalIn 10000 66 (verv x) (verv y)).run Try.prog W = .ok false W := fun W => by rw [eq_verU W x y, decide_eq_false e]
        have HE : Hid (false = M) := by
          show false = M
          cases M with
          | false => rfl
          | true => exact absurd (HTS.1 (by rw [HMV.out.1 rfl])) e
        unfold verv at hq
        clear XC YC HTS e hx hy HK
        generalize x.id = xi at *
        generalize x.root = xr at *
        generalize x.nx = xn at *
        generalize x.fx = xf at *
        generalize y.id = yi at *
        generalize y.root = yr at *
        generalize y.nx = yn at *
        generalize y.fx = yf at *
        go_wp2_with fail
        go_quiet (fail)
        have B4 : Hid (Below g w (wr.drewN nq)) := B.out.trans (Below.of_drewN _ _ _)
        go_wp2_with fail
        go_ret
        exact ⟨by rw [← HE.out]; rfl, by rw [hg.out]; exact B4.out⟩
    · have hkl : ¬ (k : Int) < (l : Int) := by omega
      have HE : Hid (true = M) := by
        have h := HK.out
        rw [List.take_of_length_le (by rw [hl.out]; omega), List.take_of_length_le (by rw [hm.out]; omega)] at h
        exact (HMV.out.2 h).symm
      clear HK
      go_wp2_with fail
      go_ret
      exact ⟨by rw [← HE.out]; rfl, by rw [hg.out]; exact B.out⟩
end Go.Proofs.Ytdicgaepggffbaa
