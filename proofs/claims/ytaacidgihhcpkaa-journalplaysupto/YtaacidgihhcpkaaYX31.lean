import Derived.Test.YtaacidgihhcpkaaYX18
import Derived.Test.YtaacidgihhcpkaaYX28
import Derived.Test.YtaacidgihhcpkaaYX30
import Derived.Test.YtaacidgihhcpkaaYX07
import Derived.Test.YtaacidgihhcpkaaYX21
import Derived.Test.YtaacidgihhcpkaaYX03
/-
  Both journals over both disks, side by side, and a deed's box.
-/
namespace Go.Proofs.Ytaacidgihhcpkaa
open Go.RowKit Go.Maps Pl
set_option linter.unusedVariables false
set_option linter.unusedSimpArgs false
set_option maxRecDepth 100000

/-- Both. -/
structure Pq (S R : Nat → Prop) (w0 w : World) (d r : Nat) (s t : DS) (j g m a q g2 m2 u : Nat) : Prop where
  jd : Jd S w0 w d s j g m a
  rf : Rf R w r t
  jr : Jr w q r g2 u m2
  ap : ∀ k, S k → ¬ R k
  r0 : ∀ k, R k → w0.heap.size ≤ k
  q1 : ¬ R q
  q2 : ¬ S q
  q3 : q ≠ j
  q0 : w0.heap.size ≤ q
  j1 : ¬ R j
/-- A deed's box beside them. -/
structure Pk (S R : Nat → Prop) (w0 w : World) (d r : Nat) (s t : DS) (j g m a q g2 m2 u xb : Nat) (cs : List Value) : Prop where
  p : Pq S R w0 w d r s t j g m a q g2 m2 u
  bx : Bo w xb 39 cs
  x1 : ¬ S xb
  x2 : ¬ R xb
  x3 : xb ≠ j
  x4 : xb ≠ q
section
variable {S R : Nat → Prop} {w0 w w' : World} {d r : Nat} {s t : DS} {j g m a q g2 m2 u xb : Nat} {cs : List Value}
theorem Pq.below (h : Pq S R w0 w d r s t j g m a q g2 m2 u) (hb : Below w.heap.size w w') : Pq S R w0 w' d r s t j g m a q g2 m2 u :=
  { h with jd := h.jd.below hb, rf := h.rf.below hb, jr := Bo.below h.jr hb }
theorem Pk.below (h : Pk S R w0 w d r s t j g m a q g2 m2 u xb cs) (hb : Below w.heap.size w w') : Pk S R w0 w' d r s t j g m a q g2 m2 u xb cs :=
  { h with p := h.p.below hb, bx := Bo.below h.bx hb }
theorem Pq.box (h : Pq S R w0 w d r s t j g m a q g2 m2 u) (cs : List Value) : Pk S R w0 (w.alloc (.cells cs.toArray 39)) d r s t j g m a q g2 m2 u w.heap.size cs :=
  ⟨h.below ((Below.refl _ _).alloc (Nat.le_refl _) _), bo_new w _ cs, fun e => by have := h.jd.dk.slt _ e; omega, fun e => by have := h.rf.rlt _ e; omega, fun e => by have := Bo.lt h.jd.jb; omega, fun e => by have := Bo.lt h.jr; omega⟩
/-- The program's side turns. -/
theorem Pk.left (h : Pk S R w0 w d r s t j g m a q g2 m2 u xb cs) {S' : Nat → Prop} {s' : DS} {m' a' : Nat} (hj : Jd S' w0 w' d s' j g m' a') (ht : Tch (fun k => S k ∨ k = j) w w') (hn : ∀ k, S' k → S k ∨ w.heap.size ≤ k) : Pk S' R w0 w' d r s' t j g m' a' q g2 m2 u xb cs where
  p := { h.p with
    jd := hj
    rf := h.p.rf.tch ht (fun k hk e => by
      rcases e with e | e
      · exact h.p.ap k e hk
      · exact h.p.j1 (e ▸ hk))
    jr := Bo.tch h.p.jr ht (fun e => by
      rcases e with e | e
      · exact h.p.q2 e
      · exact h.p.q3 e)
    ap := fun k hk e => by
      rcases hn k hk with e2 | e2
      · exact h.p.ap k e2 e
      · have := h.p.rf.rlt k e; omega
    q2 := fun e => by
      rcases hn q e with e2 | e2
      · exact h.p.q2 e2
      · have := Bo.lt h.p.jr; omega }
  bx := Bo.tch h.bx ht (fun e => by
    rcases e with e | e
    · exact h.x1 e
    · exact h.x3 e)
  x1 := fun e => by
    rcases hn xb e with e2 | e2
    · exact h.x1 e2
    · have := Bo.lt h.bx; omega
  x2 := h.x2
  x3 := h.x3
  x4 := h.x4
/-- The document's side turns. -/
theorem Pk.right (h : Pk S R w0 w d r s t j g m a q g2 m2 u xb cs) {R' : Nat → Prop} {t' : DS} {m' u' : Nat} (hr : Rf R' w' r t') (hj : Jr w' q r g2 u' m') (ht : Tch (fun k => R k ∨ k = q) w w') (hn : ∀ k, R' k → R k ∨ w.heap.size ≤ k) : Pk S R' w0 w' d r s t' j g m a q g2 m' u' xb cs where
  p := { h.p with
    jd := { h.p.jd with
      dk := h.p.jd.dk.tch ht (fun k hk e => by
        rcases e with e | e
        · exact h.p.ap k hk e
        · exact h.p.q2 (e ▸ hk))
      be := h.p.jd.be.trans (ht.below h.p.jd.be.size (fun k e => by
        rcases e with e | e
        · exact h.p.r0 k e
        · rw [e]; exact h.p.q0))
      jb := Bo.tch h.p.jd.jb ht (fun e => by
        rcases e with e | e
        · exact h.p.j1 e
        · exact h.p.q3 e.symm) }
    rf := hr
    jr := hj
    ap := fun k hk e => by
      rcases hn k e with e2 | e2
      · exact h.p.ap k hk e2
      · have := h.p.jd.dk.slt k hk; omega
    r0 := fun k hk => by
      rcases hn k hk with e | e
      · exact h.p.r0 k e
      · exact Nat.le_trans h.p.jd.be.size e
    q1 := fun e => by
      rcases hn q e with e2 | e2
      · exact h.p.q1 e2
      · have := Bo.lt h.p.jr; omega
    j1 := fun e => by
      rcases hn j e with e2 | e2
      · exact h.p.j1 e2
      · have := Bo.lt h.p.jd.jb; omega }
  bx := Bo.tch h.bx ht (fun e => by
    rcases e with e | e
    · exact h.x2 e
    · exact h.x4 e)
  x1 := h.x1
  x2 := fun e => by
    rcases hn xb e with e2 | e2
    · exact h.x2 e2
    · have := Bo.lt h.bx; omega
  x3 := h.x3
  x4 := h.x4
theorem Pk.dkTo (h : Pk S R w0 w d r s t j g m a q g2 m2 u xb cs) {s' : DS} (hd : DkTo S w w' d s') (hL : s'.L.length = s.L.length) : ∃ S', Pk S' R w0 w' d r s' t j g m a q g2 m2 u xb cs := by
  obtain ⟨S', h1, h2, h3⟩ := h.p.jd.dkTo2 hd hL
  exact ⟨S', h.left h1 (h2.mono (fun k _ e => .inl e)) h3⟩
theorem Pk.rfTo (h : Pk S R w0 w d r s t j g m a q g2 m2 u xb cs) {t' : DS} (hd : RfTo R w w' r t') : ∃ R', Pk S R' w0 w' d r s t' j g m a q g2 m2 u xb cs := by
  obtain ⟨R', h1, h2, h3⟩ := hd
  exact ⟨R', h.right h1 (Bo.tch h.p.jr h2 h.p.q1) (h2.mono (fun k _ e => .inl e)) h3⟩
/-- New journals. -/
theorem Pk.newj (h : Pk S R w0 w d r s t j g m a q g2 m2 u xb cs) {g' : Nat} (h1 : 1 ≤ g') (h2 : g' ≤ 4294967295) (hj : Jb w' w.heap.size d g' 0 2) (hb : Below w.heap.size w w') : Pk S R w0 w' d r s t w.heap.size g' 0 2 q g2 m2 u xb cs :=
  ⟨{ (h.p.below hb) with jd := h.p.jd.again h1 h2 hj hb, q3 := fun e => by have := Bo.lt h.p.jr; omega, j1 := fun e => by have := h.p.rf.rlt _ e; omega }, Bo.below h.bx hb, h.x1, h.x2, (fun e => by have := Bo.lt h.bx; omega), h.x4⟩
theorem Pk.newq (h : Pk S R w0 w d r s t j g m a q g2 m2 u xb cs) {g' : Nat} (hj : Jr w' w.heap.size r g' 0 0) (hb : Below w.heap.size w w') : Pk S R w0 w' d r s t j g m a w.heap.size g' 0 0 xb cs :=
  ⟨{ (h.p.below hb) with jr := hj, q1 := (fun e => by have := h.p.rf.rlt _ e; omega), q2 := (fun e => by have := h.p.jd.dk.slt _ e; omega), q3 := (fun e => by have := Bo.lt h.p.jd.jb; omega), q0 := h.p.jd.be.size }, Bo.below h.bx hb, h.x1, h.x2, h.x3, (fun e => by have := Bo.lt h.bx; omega)⟩
/-- Appends. -/
theorem Pk.app_ok (h : Pk S R w0 w d r s t j g m a q g2 m2 u xb cs) (hm : m + 2 ≤ a) (v : Value) (ys : List Int) (hr : Rd .u8 w0 v ys) (hb : By ys) (hV : ∀ i, (s.V i).length < 274877906000) (hf : npc ys.length ≤ 50 - a) :
    Calls Try.prog 13 #[.pointer (some ⟨j, 0, none⟩), v] w fun e w' => e = .returned (.int .i64 0) ∧ ∃ S', Pk S' R w0 w' d r (jap s g (m + 1) a ys (npc ys.length)) t j g (m + 1) (a + npc ys.length) q g2 m2 u xb cs :=
  (appJ h.p.jd hm v ys (hr.below h.p.jd.be) hb (h.p.jd.arg hr).2 hV).mono (by
    rintro e w' (⟨_, rfl, S', j', t', n'⟩ | ⟨h5, _⟩)
    · exact ⟨rfl, S', h.left j' t' n'⟩
    · exact absurd hf h5)
theorem Pk.app_bad (h : Pk S R w0 w d r s t j g m a q g2 m2 u xb cs) (hm : m + 2 ≤ a) (v : Value) (ys : List Int) (hr : Rd .u8 w0 v ys) (hb : By ys) (hV : ∀ i, (s.V i).length < 274877906000) (hf : ¬ npc ys.length ≤ 50 - a) :
    Calls Try.prog 13 #[.pointer (some ⟨j, 0, none⟩), v] w fun e w' => e = .returned (.int .i64 11) ∧ Pk S R w0 w' d r s t j g m a q g2 m2 u xb cs :=
  (appJ h.p.jd hm v ys (hr.below h.p.jd.be) hb (h.p.jd.arg hr).2 hV).mono (by
    rintro e w' (⟨h5, _⟩ | ⟨_, rfl, rfl⟩)
    · exact absurd h5 hf
    · exact ⟨rfl, h⟩)
theorem Pk.rapp_ok (h : Pk S R w0 w d r s t j g m a q g2 m2 u xb cs) (hu : u ≤ 48) (hg : g2 < 4294967296) (hm : m2 ≤ 48) (h50 : 50 ≤ t.L.length) (v : Value) (ys : List Int) (hr : Rd .u8 w0 v ys) (hb : By ys) (hV : ∀ i, (t.V i).length < 274877906000) (hl : ys.length ≤ 2000000000) (hf : npc ys.length ≤ 48 - u) :
    Calls Try.prog 14 #[.pointer (some ⟨q, 0, none⟩), v] w fun e w' => e = .returned (.int .i64 0) ∧ ∃ R', Pk S R' w0 w' d r s (jap t g2 (m2 + 1) (2 + u) ys (npc ys.length)) j g m a q g2 (m2 + 1) (u + npc ys.length) xb cs :=
  (refAppend_any q g2 u m2 v ys w h.p.rf h.p.jr h.p.q1 (hr.below h.p.jd.be) hb (fun k hk h0 => by have := hr.blk_lt h0 hk; exact ⟨fun e => by have := h.p.r0 k e; omega, by have := h.p.q0; omega⟩) h50 hu hg (by omega) hV hl).mono (by
    rintro e w' (⟨_, rfl, R', f', j', t', n'⟩ | ⟨h5, _⟩)
    · exact ⟨rfl, R', h.right f' j' t' n'⟩
    · exact absurd hf h5)
theorem Pk.rapp_bad (h : Pk S R w0 w d r s t j g m a q g2 m2 u xb cs) (hu : u ≤ 48) (hg : g2 < 4294967296) (hm : m2 ≤ 48) (h50 : 50 ≤ t.L.length) (v : Value) (ys : List Int) (hr : Rd .u8 w0 v ys) (hb : By ys) (hV : ∀ i, (t.V i).length < 274877906000) (hl : ys.length ≤ 2000000000) (hf : ¬ npc ys.length ≤ 48 - u) :
    Calls Try.prog 14 #[.pointer (some ⟨q, 0, none⟩), v] w fun e w' => e = .returned (.int .i64 11) ∧ Pk S R w0 w' d r s t j g m a q g2 m2 u xb cs :=
  (refAppend_any q g2 u m2 v ys w h.p.rf h.p.jr h.p.q1 (hr.below h.p.jd.be) hb (fun k hk h0 => by have := hr.blk_lt h0 hk; exact ⟨fun e => by have := h.p.r0 k e; omega, by have := h.p.q0; omega⟩) h50 hu hg (by omega) hV hl).mono (by
    rintro e w' (⟨h5, _⟩ | ⟨_, rfl, b'⟩)
    · exact absurd h5 hf
    · exact ⟨rfl, h.below b'⟩)
end
end Go.Proofs.Ytaacidgihhcpkaa
/-
  JournalPlays's walk.
-/
namespace Go.Proofs.Ytaacidgihhcpkaa
open Go.RowKit Go.Maps Pl
set_option linter.unusedVariables false
set_option linter.unusedSimpArgs false
set_option maxRecDepth 100000

/-- What comes behind is shown once. -/
structure Kept (G : Prop) : Prop where
  out : G
theorem shareJ {G X : Prop} (h : Kept G → X) (g : G) : X := h ⟨g⟩
theorem wrrJ_L (s : DS) (at_ : Int) (x : List Int) : (wrr s at_ x).L.length = s.L.length := by
  unfold wrr
  split
  · rfl
  · split
    · rw [wr_L]
    · rfl
theorem wrrJ_V (s : DS) (at_ : Int) (x : List Int) (i : Nat) : ((wrr s at_ x).V i).length ≤ (s.V i).length + 1 := by
  unfold wrr
  split
  · omega
  · split
    · exact wr_V_le s _ x i
    · omega
theorem rttJ_L (s : DS) (b : Int) : (rtt s b).L.length = s.L.length := by
  unfold rtt
  split
  · rfl
  · simp [DS.rot]
theorem rttJ_V (s : DS) (b : Int) (i : Nat) : ((rtt s b).V i).length = (s.V i).length := by
  unfold rtt
  split
  · rfl
  · unfold DS.rot vput
    dsimp only
    split
    · rename_i h; subst h; simp
    · rfl
/-- What the loop holds besides. -/
def Vk (s : DS) (k : Nat) : Prop := (∀ i, (s.V i).length ≤ 50 * k) ∧ s.L.length = 60

set_option maxHeartbeats 8000000 in
theorem journalPlays_walk (v : Value) (xs : List Jq) (w : World) (hr : RdJ w v xs) (hxn : xs.length ≤ 1048576) (hxd : ∀ x ∈ xs, x.data.length ≤ 1048576) :
    Calls Try.prog 3 #[v] w fun e w' => e = .returned (.bool true) ∧ Below w.heap.size w w' := by
  obtain ⟨va, vc, rfl, hv1, hv2, _⟩ := id hr
  have HR : Hid (RdJ w (.slice va xs.length vc) xs) := hr
  have HXD := hideP hxd
  have hvc : vc ≤ 9223372036854775807 := by unfold maxLen at hv2; omega
  obtain ⟨n, hn⟩ : ∃ n, Hid (xs.length = n) := ⟨_, rfl⟩
  rw [hn.out] at HR hv1 hxn ⊢
  have HN := hideP (new_ok 60 w (by decide) (by decide))
  clear hr hv2 hxd
  go_enter Try.func3, Try.ntmps3
  go_wp2_with fail
  refine HN.out.mono ?_
  rintro e w1 ⟨d, S, rfl, D1, b1, n1⟩
  have HD1 := hideP D1
  have HB1 := hideP b1
  have HN1 := hideP n1
  have HN2 := hideP (refNew_ok 60 w1 (by decide) (by decide))
  clear HN D1 b1 n1
  unfold dp
  go_wp2_with fail
  refine HN2.out.mono ?_
  rintro e w2 ⟨r, R, rfl, D2, b2, n2⟩
  have HD2 := hideP (HD1.out.below b2)
  have HF2 := hideP D2
  have HB2 : Hid (Below w.heap.size w w2) := HB1.out.trans (b2.mono HB1.out.size)
  have HR2 : Hid (∀ k, R k → w.heap.size ≤ k) := fun k hk => Nat.le_trans HB1.out.size (n2 k hk)
  have HAP : Hid (∀ k, S k → ¬ R k) := fun k hk e => by have := HD1.out.slt k hk; have := n2 k e; omega
  have HJ := hideP (newJ_any 1 w2 HD2.out (by simp [DS.new]))
  clear HN2 D2 b2 n2 HD1 HB1
  unfold dp at HJ ⊢
  go_wp2_with fail
  refine HJ.out.mono ?_
  rintro e w3 (⟨_, rfl, jb3, b3, s3⟩ | ⟨h, _⟩)
  case inr => exact absurd h (by decide)
  have J3 : Hid (Jd S w w3 d (DS.new 60) w2.heap.size 1 0 2) := jd_new HD2.out HB2.out HN1.out (by simp [DS.new]) (by decide) (by decide) jb3 b3
  have HF3 := hideP (HF2.out.below b3)
  have HJR : Hid (∀ k, R k → k < w2.heap.size) := HF2.out.rlt
  have HJS : Hid (∀ k, S k → k < w2.heap.size) := HD2.out.slt
  obtain ⟨j, hjj⟩ : ∃ j, Hid (w2.heap.size = j) := ⟨_, rfl⟩
  rw [hjj.out] at J3 HJR HJS ⊢
  have HQ := hideP (refNewJ_any 1 w3 HF3.out (by simp [DS.new]))
  clear HJ jb3 b3 s3 HD2 HF2 HB2
  unfold dp at HQ
  go_wp2_with fail
  refine HQ.out.mono ?_
  rintro e w4 (⟨_, rfl, jr4, b4, s4⟩ | ⟨h, _⟩)
  case inr => exact absurd h (by decide)
  have P4 : Hid (Pq S R w w4 d r (DS.new 60) (DS.new 60) j 1 0 2 w3.heap.size 1 0 0) := ⟨J3.out.below b4, HF3.out.below b4, jr4, HAP.out, HR2.out, (fun e => by have := HF3.out.rlt _ e; omega), (fun e => by have := J3.out.dk.slt _ e; omega), (fun e => by have := Bo.lt J3.out.jb; omega), J3.out.be.size, (fun e => by have := HJR.out j e; omega)⟩
  obtain ⟨q, hqq⟩ : ∃ q, Hid (w3.heap.size = q) := ⟨_, rfl⟩
  rw [hqq.out] at P4 ⊢
  clear HQ jr4 b4 s4 J3 HF3
  go_wp2_with fail
  go_loopw [7, 8, 9, 11] (fun gv jv qv iv wr => ∃ (k g m a u j q : Nat) (S R : Nat → Prop) (s : DS), k ≤ n ∧ iv = .int .i64 (k : Int) ∧ gv = .int .i64 (g : Int) ∧ jv = .pointer (some ⟨j, 0, none⟩) ∧ qv = .pointer (some ⟨q, 0, none⟩) ∧ u + 2 = a ∧ m + 2 ≤ a ∧ Hid (Pq S R w wr d r s s j g m a q g m u) ∧ Hid (Vk s k)) (fun _ _ _ iv _ => n - (intOf iv).toNat)
  case atStart => exact ⟨0, 1, 0, 2, 0, j, q, S, R, DS.new 60, Nat.zero_le _, rfl, rfl, rfl, rfl, rfl, by decide, P4, ⟨fun i => by rw [new_V]; exact Nat.zero_le _, by simp [DS.new]⟩⟩
  case round =>
    clear P4
    obtain ⟨k, g, m, a, u, j, q, S, R, s, hk, rfl, rfl, rfl, rfl, hua, hma, PQ, VK⟩ := hrel
    by_cases hlt : k < n
    · have hkl : (k : Int) < (n : Int) := by omega
      obtain ⟨x, hx⟩ : ∃ x, xs[k]? = some x := ⟨_, List.getElem?_eq_getElem (by rw [hn.out]; exact hlt)⟩
      obtain ⟨lb, lo, rfl, XC, XO⟩ := HR.out.at_ PQ.out.jd.be hx
      have HDL := hideP (HXD.out x (List.mem_of_getElem? hx))
      obtain ⟨kind, dv, data, xn, pv, ps⟩ := x
      have c0 := XC.c0
      have c1 := XC.c1
      have c2 := XC.c2
      have c3 := XC.c3
      dsimp only at c0 c1 c2 c3 HDL
      obtain ⟨da, dc, hde, hd1, hd2, _⟩ := id XO.rd
      obtain ⟨pa, pc, hpe, hp1, hp2, _⟩ := id XO.rp
      dsimp only at hde hpe hd1 hd2 hp1 hp2
      subst hde hpe
      have hdc9 : dc ≤ 9223372036854775807 := by unfold maxLen at hd2; omega
      have HRD : Hid (Rd .u8 w (.slice da data.length dc) data) := XO.rd
      have HBD : Hid (By data) := XO.by_
      have HRP : Hid (Rd .i64 w (.slice pa ps.length pc) ps) := XO.rp
      have HWK : Hid ((Lit.int .i64 kind).wf = true) := XO.wk
      have HWN : Hid ((Lit.int .i64 xn).wf = true) := XO.wn
      obtain ⟨dl, hdl⟩ : ∃ dl, Hid (data.length = dl) := ⟨_, rfl⟩
      obtain ⟨pl, hpl⟩ : ∃ pl, Hid (ps.length = pl) := ⟨_, rfl⟩
      rw [hdl.out] at c1 HRD hd1
      rw [hpl.out] at c3 HRP hp1
      clear XC XO hx hd2 hp2
      obtain ⟨qb, hq⟩ : ∃ q, Hid (wr.heap.size = q) := ⟨_, rfl⟩
      obtain ⟨W1, hW1⟩ : ∃ W1, wr.alloc (.cells #[.int .i64 kind, .slice da dl dc, .int .i64 xn, .slice pa pl pc] 39) = W1 := ⟨_, rfl⟩
      have PK1 : Hid (Pk S R w W1 d r s s j g m a q g m u qb [.int .i64 kind, .slice da dl dc, .int .i64 xn, .slice pa pl pc]) := by rw [← hW1, ← hq.out]; exact PQ.out.box [.int .i64 kind, .slice da dl dc, .int .i64 xn, .slice pa pl pc]
      have HVN : Hid (∀ i, (s.V i).length < 274877906000) := fun i => by have := VK.out.1 i; omega
      have HPK := hideP (pickJ_any kind 6 (by decide) (by decide) HWK.out W1)
      have hp6 : pk kind 6 < 6 := pk_lt kind (by decide)
      have q0 := PK1.out.bx.cell (i := 0) rfl
      have q1 := PK1.out.bx.cell (i := 1) rfl
      have q2 := PK1.out.bx.cell (i := 2) rfl
      have q3 := PK1.out.bx.cell (i := 3) rfl
      have hq2 : wr.heap.size = qb := hq.out
      have hu48 : u ≤ 48 := by have := PQ.out.jd.a5; omega
      have hm48 : m ≤ 48 := PQ.out.jd.m2
      have hg1 : 1 ≤ g := PQ.out.jd.g1
      have hg2 : g ≤ 4294967295 := PQ.out.jd.g2
      clear PQ
      obtain hc | hc | hc | hc | hc | hc : pk kind 6 = 0 ∨ pk kind 6 = 1 ∨ pk kind 6 = 2 ∨ pk kind 6 = 3 ∨ pk kind 6 = 4 ∨ pk kind 6 = 5 := by omega
      · as_aux_lemma =>
          have HP0 : Hid (Calls Try.prog 12 #[.int .i64 kind, .int .i64 6] W1 fun e w' => e = .returned (.int .i64 0) ∧ w' = W1) := by
            have := HPK.out
            rw [hc] at this
            exact this
          clear HPK hc hp6
          go_wp2_with fail
          refine HP0.out.mono ?_
          rintro e W1 ⟨rfl, rfl⟩
          clear hW1 HP0 c0 c1 c2 c3
          by_cases hf : npc data.length ≤ 50 - a
          · have k1 : W1.drew.cell? ⟨qb, 1, none⟩ = some (.slice da dl dc) := q1
            have PKD := hideP (PK1.out.below (Below.refl _ _).drew)
            have HA := hideP (PKD.out.app_ok hma (.slice da dl dc) data HRD.out HBD.out HVN.out hf)
            have HB : Hid (∀ (S2 : Nat → Prop) (W : World), Pk S2 R w W d r (jap s g (m + 1) a data (npc data.length)) s j g (m + 1) (a + npc data.length) q g m u qb [.int .i64 kind, .slice da dl dc, .int .i64 xn, .slice pa pl pc] → Calls Try.prog 14 #[.pointer (some ⟨q, 0, none⟩), .slice da dl dc] W fun e w' => e = .returned (.int .i64 0) ∧ ∃ R', Pk S2 R' w w' d r (jap s g (m + 1) a data (npc data.length)) (jap s g (m + 1) (2 + u) data (npc data.length)) j g (m + 1) (a + npc data.length) q g (m + 1) (u + npc data.length) qb [.int .i64 kind, .slice da dl dc, .int .i64 xn, .slice pa pl pc]) := fun S2 W h => h.rapp_ok hu48 (by omega) hm48 (by rw [VK.out.2]; decide) _ data HRD.out HBD.out HVN.out (by have := HDL.out; omega) (by omega)
            clear q0 q1 q2 q3
            go_wp2_with fail
            go_region_held3 (fun w' => w'.cell? ⟨qb, 1, none⟩ = some (.slice da dl dc)) (first | exact k1 | exact k2 | exact k3 | go_keep)
              (first
                | (go_at_call 13; refine HA.out.mono ?_; rintro e w11 ⟨rfl, S2, P11⟩; have PK11 := hideP P11; have k2 := P11.bx.cell (i := 1) rfl; clear P11)
                | (go_at_call 14; refine (HB.out S2 w11 PK11.out).mono ?_; rintro e w12 ⟨rfl, R2, P12⟩; have PK12a := hideP P12; have k3 := P12.bx.cell (i := 1) rfl; clear P12))
            have hau : 2 + u = a := by omega
            have hN48 : npc data.length ≤ 48 := by omega
            have hN1 : 1 ≤ npc data.length := npc_pos _
            rw [hau] at PK12a
            have VK2 : Hid (Vk (jap s g (m + 1) a data (npc data.length)) (k + 1)) := ⟨fun i => by have := jap_V s g (m + 1) a data (npc data.length) i; have := VK.out.1 i; omega, by rw [jap_L]; exact VK.out.2⟩
            obtain ⟨NN, hNN⟩ : ∃ x, npc data.length = x := ⟨_, rfl⟩
            rw [hNN] at PK12a VK2 hN48 hN1 hf
            obtain ⟨s2, hs2⟩ : ∃ s2, Hid (jap s g (m + 1) a data NN = s2) := ⟨_, rfl⟩
            rw [hs2.out] at PK12a VK2
            obtain ⟨a2, ha2⟩ : ∃ x, a + NN = x := ⟨_, rfl⟩
            obtain ⟨m2, hm2⟩ : ∃ x, m + 1 = x := ⟨_, rfl⟩
            obtain ⟨u2, hu2⟩ : ∃ x, u + NN = x := ⟨_, rfl⟩
            rw [ha2, hm2, hu2] at PK12a
            have hua2 : u2 + 2 = a2 := by omega
            have hma2 : m2 + 2 ≤ a2 := by omega
            have PK12 := PK12a
            clear PK12a PK11 PKD PK1 k1 k2 k3 HA HB ha2 hm2 hu2 hau hNN
            have HO1 := hideP (open_any g w12 PK12.out.p.jd.dk PK12.out.p.jd.l5 PK12.out.p.jd.g1 PK12.out.p.jd.g2)
            unfold dp at HO1
            go_wp2_with fail
            refine HO1.out.mono ?_
            clear HO1
            rintro e w21 ⟨lv, rfl, r21, b21⟩
            have P21 := hideP (PK12.out.p.below b21)
            have HO2 := hideP (refOpenJ_any g w21 P21.out.rf P21.out.jd.l5 P21.out.jd.g1 P21.out.jd.g2)
            obtain ⟨la, lc, hle, _⟩ := id r21
            have HRL1 := hideP r21
            rw [hle] at HRL1 ⊢
            clear b21 r21 hle lv
            unfold dp at HO2
            go_wp2_with fail
            refine HO2.out.mono ?_
            clear HO2
            rintro e w22 ⟨lv2, rfl, r22, b22⟩
            have P22 := hideP (P21.out.below b22)
            have HSA := hideP (sameL_any _ lv2 _ w22 (HRL1.out.below b22) r22)
            obtain ⟨la2, lc2, hle2, _⟩ := id r22
            rw [hle2] at HSA ⊢
            obtain ⟨ln, hln⟩ : ∃ x, Hid ((jopen s2.has g).length = x) := ⟨_, rfl⟩
            rw [hln.out] at HSA ⊢
            clear b22 r22 hle2 lv2 HRL1 P21
            go_wp2_with fail
            refine HSA.out.mono ?_
            clear HSA
            rintro e w23 ⟨rfl, b23⟩
            have P23 := hideP (P22.out.below b23)
            clear b23 P22
            have x2 := Bo.cell P23.out.jr (i := 2) rfl
            have x3 := Bo.cell P23.out.jr (i := 3) rfl
            obtain ⟨ro, hro⟩ : ∃ x, 50 - a2 = x := ⟨_, rfl⟩
            have hroI : (48 : Int) - (u2 : Int) = (ro : Int) := by have := P23.out.jd.a5; omega
            have HRM : Hid (∀ W, Below w23.heap.size w23 W → Calls Try.prog 27 #[.pointer (some ⟨j, 0, none⟩)] W fun e w' => e = .returned (.int .i64 (ro : Int)) ∧ w' = W) := fun W hW => by
              have := room_any j d g m2 a2 W (Bo.below P23.out.jd.jb hW) P23.out.jd.a5
              rw [hro] at this
              exact this
            have HMN : Hid (∀ W, Below w23.heap.size w23 W → Calls Try.prog 28 #[.pointer (some ⟨j, 0, none⟩)] W fun e w' => e = .returned (.int .i64 (m2 : Int)) ∧ w' = W) := fun W hW => many_any j d g m2 a2 W (Bo.below P23.out.jd.jb hW)
            have hne1 : ((ro : Int) != (ro : Int)) = false := by simp
            have hne2 : ((m2 : Int) != (m2 : Int)) = false := by simp
            clear hro
            go_wp2_with fail
            go_quiet (first | (go_at_call 27; exact Calls.quiet_of_same (HRM.out _ (Below.of_drewN _ _ _))) | (go_at_call 28; exact Calls.quiet_of_same (HMN.out _ (Below.of_drewN _ _ _))))
            have P24 := hideP (P23.out.below (Below.of_drewN _ w23 nq))
            clear x2 x3 HRM HMN hne1 hne2 P23
            go_wp2_with fail
            go_roundw
            case rel => exact ⟨k + 1, g, m2, a2, u2, j, q, S2, R2, s2, by omega, by go_num, rfl, rfl, rfl, by omega, by omega, P24, VK2⟩
            case measure => simp [intOf]; omega
          · have k1 : W1.drew.cell? ⟨qb, 1, none⟩ = some (.slice da dl dc) := q1
            have PKD := hideP (PK1.out.below (Below.refl _ _).drew)
            have HA := hideP (PKD.out.app_bad hma (.slice da dl dc) data HRD.out HBD.out HVN.out hf)
            have HB : Hid (∀ (W : World), Pk S R w W d r s s j g m a q g m u qb [.int .i64 kind, .slice da dl dc, .int .i64 xn, .slice pa pl pc] → Calls Try.prog 14 #[.pointer (some ⟨q, 0, none⟩), .slice da dl dc] W fun e w' => e = .returned (.int .i64 11) ∧ Pk S R w w' d r s s j g m a q g m u qb [.int .i64 kind, .slice da dl dc, .int .i64 xn, .slice pa pl pc]) := fun W h => h.rapp_bad hu48 (by omega) hm48 (by rw [VK.out.2]; decide) _ data HRD.out HBD.out HVN.out (by have := HDL.out; omega) (by omega)
            clear q0 q1 q2 q3
            go_wp2_with fail
            go_region_held3 (fun w' => w'.cell? ⟨qb, 1, none⟩ = some (.slice da dl dc)) (first | exact k1 | exact k2 | exact k3 | go_keep)
              (first
                | (go_at_call 13; refine HA.out.mono ?_; rintro e w11 ⟨rfl, P11⟩; have PK11 := hideP P11; have k2 := P11.bx.cell (i := 1) rfl; clear P11)
                | (go_at_call 14; refine (HB.out w11 PK11.out).mono ?_; rintro e w12 ⟨rfl, P12⟩; have PK12 := hideP P12; have k3 := P12.bx.cell (i := 1) rfl; clear P12))
            have VK2 : Hid (Vk s (k + 1)) := ⟨fun i => by have := VK.out.1 i; omega, VK.out.2⟩
            clear PK11 PKD PK1 k1 k2 k3 HA HB
            have HO1 := hideP (open_any g w12 PK12.out.p.jd.dk PK12.out.p.jd.l5 PK12.out.p.jd.g1 PK12.out.p.jd.g2)
            unfold dp at HO1
            go_wp2_with fail
            refine HO1.out.mono ?_
            clear HO1
            rintro e w21 ⟨lv, rfl, r21, b21⟩
            have P21 := hideP (PK12.out.p.below b21)
            have HO2 := hideP (refOpenJ_any g w21 P21.out.rf P21.out.jd.l5 P21.out.jd.g1 P21.out.jd.g2)
            obtain ⟨la, lc, hle, _⟩ := id r21
            have HRL1 := hideP r21
            rw [hle] at HRL1 ⊢
            clear b21 r21 hle lv
            unfold dp at HO2
            go_wp2_with fail
            refine HO2.out.mono ?_
            clear HO2
            rintro e w22 ⟨lv2, rfl, r22, b22⟩
            have P22 := hideP (P21.out.below b22)
            have HSA := hideP (sameL_any _ lv2 _ w22 (HRL1.out.below b22) r22)
            obtain ⟨la2, lc2, hle2, _⟩ := id r22
            rw [hle2] at HSA ⊢
            obtain ⟨ln, hln⟩ : ∃ x, Hid ((jopen s.has g).length = x) := ⟨_, rfl⟩
            rw [hln.out] at HSA ⊢
            clear b22 r22 hle2 lv2 HRL1 P21
            go_wp2_with fail
            refine HSA.out.mono ?_
            clear HSA
            rintro e w23 ⟨rfl, b23⟩
            have P23 := hideP (P22.out.below b23)
            clear b23 P22
            have x2 := Bo.cell P23.out.jr (i := 2) rfl
            have x3 := Bo.cell P23.out.jr (i := 3) rfl
            obtain ⟨ro, hro⟩ : ∃ x, 50 - a = x := ⟨_, rfl⟩
            have hroI : (48 : Int) - (u : Int) = (ro : Int) := by have := P23.out.jd.a5; omega
            have HRM : Hid (∀ W, Below w23.heap.size w23 W → Calls Try.prog 27 #[.pointer (some ⟨j, 0, none⟩)] W fun e w' => e = .returned (.int .i64 (ro : Int)) ∧ w' = W) := fun W hW => by
              have := room_any j d g m a W (Bo.below P23.out.jd.jb hW) P23.out.jd.a5
              rw [hro] at this
              exact this
            have HMN : Hid (∀ W, Below w23.heap.size w23 W → Calls Try.prog 28 #[.pointer (some ⟨j, 0, none⟩)] W fun e w' => e = .returned (.int .i64 (m : Int)) ∧ w' = W) := fun W hW => many_any j d g m a W (Bo.below P23.out.jd.jb hW)
            have hne1 : ((ro : Int) != (ro : Int)) = false := by simp
            have hne2 : ((m : Int) != (m : Int)) = false := by simp
            clear hro
            go_wp2_with fail
            go_quiet (first | (go_at_call 27; exact Calls.quiet_of_same (HRM.out _ (Below.of_drewN _ _ _))) | (go_at_call 28; exact Calls.quiet_of_same (HMN.out _ (Below.of_drewN _ _ _))))
            have P24 := hideP (P23.out.below (Below.of_drewN _ w23 nq))
            clear x2 x3 HRM HMN hne1 hne2 P23
            go_wp2_with fail
            go_roundw
            case rel => exact ⟨k + 1, g, m, a, u, j, q, S, R, s, by omega, by go_num, rfl, rfl, rfl, by omega, by omega, P24, VK2⟩
            case measure => simp [intOf]; omega
      · as_aux_lemma =>
          have HP1 : Hid (Calls Try.prog 12 #[.int .i64 kind, .int .i64 6] W1 fun e w' => e = .returned (.int .i64 1) ∧ w' = W1) := by
            have := HPK.out
            rw [hc] at this
            exact this
          clear HPK hc hp6
          go_wp2_with fail
          refine HP1.out.mono ?_
          rintro e W1 ⟨rfl, rfl⟩
          clear hW1 HP1 c0 c1 c2 c3
          have HF1 := hideP (flush_any W1 PK1.out.p.jd.dk)
          unfold dp at HF1
          go_wp2_with fail
          refine HF1.out.mono ?_
          rintro e w11 ⟨rfl, d11⟩
          obtain ⟨S1, P11⟩ := PK1.out.dkTo d11 (fl_L s)
          have PK11 := hideP P11
          have HF2 := hideP (refFlush_any w11 P11.p.rf)
          clear HF1 d11 P11
          unfold dp at HF2
          go_wp2_with fail
          refine HF2.out.mono ?_
          rintro e w12 ⟨rfl, d12⟩
          obtain ⟨R1, P12⟩ := PK11.out.rfTo d12
          have PK12 := hideP P12
          have VK2 : Hid (Vk s.fl (k + 1)) := ⟨fun i => by have := fl_V_le s i; have := VK.out.1 i; omega, by rw [fl_L]; exact VK.out.2⟩
          obtain ⟨s2, hs2⟩ : ∃ s2, Hid (s.fl = s2) := ⟨_, rfl⟩
          rw [hs2.out] at PK12 VK2
          clear HF2 d12 P12 PK11 PK1 q0 q1 q2 q3
          have HO1 := hideP (open_any g w12 PK12.out.p.jd.dk PK12.out.p.jd.l5 PK12.out.p.jd.g1 PK12.out.p.jd.g2)
          unfold dp at HO1
          go_wp2_with fail
          refine HO1.out.mono ?_
          clear HO1
          rintro e w21 ⟨lv, rfl, r21, b21⟩
          have P21 := hideP (PK12.out.p.below b21)
          have HO2 := hideP (refOpenJ_any g w21 P21.out.rf P21.out.jd.l5 P21.out.jd.g1 P21.out.jd.g2)
          obtain ⟨la, lc, hle, _⟩ := id r21
          have HRL1 := hideP r21
          rw [hle] at HRL1 ⊢
          clear b21 r21 hle lv
          unfold dp at HO2
          go_wp2_with fail
          refine HO2.out.mono ?_
          clear HO2
          rintro e w22 ⟨lv2, rfl, r22, b22⟩
          have P22 := hideP (P21.out.below b22)
          have HSA := hideP (sameL_any _ lv2 _ w22 (HRL1.out.below b22) r22)
          obtain ⟨la2, lc2, hle2, _⟩ := id r22
          rw [hle2] at HSA ⊢
          obtain ⟨ln, hln⟩ : ∃ x, Hid ((jopen s2.has g).length = x) := ⟨_, rfl⟩
          rw [hln.out] at HSA ⊢
          clear b22 r22 hle2 lv2 HRL1 P21
          go_wp2_with fail
          refine HSA.out.mono ?_
          clear HSA
          rintro e w23 ⟨rfl, b23⟩
          have P23 := hideP (P22.out.below b23)
          clear b23 P22
          have x2 := Bo.cell P23.out.jr (i := 2) rfl
          have x3 := Bo.cell P23.out.jr (i := 3) rfl
          obtain ⟨ro, hro⟩ : ∃ x, 50 - a = x := ⟨_, rfl⟩
          have hroI : (48 : Int) - (u : Int) = (ro : Int) := by have := P23.out.jd.a5; omega
          have HRM : Hid (∀ W, Below w23.heap.size w23 W → Calls Try.prog 27 #[.pointer (some ⟨j, 0, none⟩)] W fun e w' => e = .returned (.int .i64 (ro : Int)) ∧ w' = W) := fun W hW => by
            have := room_any j d g m a W (Bo.below P23.out.jd.jb hW) P23.out.jd.a5
            rw [hro] at this
            exact this
          have HMN : Hid (∀ W, Below w23.heap.size w23 W → Calls Try.prog 28 #[.pointer (some ⟨j, 0, none⟩)] W fun e w' => e = .returned (.int .i64 (m : Int)) ∧ w' = W) := fun W hW => many_any j d g m a W (Bo.below P23.out.jd.jb hW)
          have hne1 : ((ro : Int) != (ro : Int)) = false := by simp
          have hne2 : ((m : Int) != (m : Int)) = false := by simp
          clear hro
          go_wp2_with fail
          go_quiet (first | (go_at_call 27; exact Calls.quiet_of_same (HRM.out _ (Below.of_drewN _ _ _))) | (go_at_call 28; exact Calls.quiet_of_same (HMN.out _ (Below.of_drewN _ _ _))))
          have P24 := hideP (P23.out.below (Below.of_drewN _ w23 nq))
          clear x2 x3 HRM HMN hne1 hne2 P23
          go_wp2_with fail
          go_roundw
          case rel => exact ⟨k + 1, g, m, a, u, j, q, S1, R1, s2, by omega, by go_num, rfl, rfl, rfl, by omega, by omega, P24, VK2⟩
          case measure => simp [intOf]; omega
      · as_aux_lemma =>
          have HP2 : Hid (Calls Try.prog 12 #[.int .i64 kind, .int .i64 6] W1 fun e w' => e = .returned (.int .i64 2) ∧ w' = W1) := by
            have := HPK.out
            rw [hc] at this
            exact this
          clear HPK hc hp6
          go_wp2_with fail
          refine HP2.out.mono ?_
          rintro e W1 ⟨rfl, rfl⟩
          clear hW1 HP2 c0 c1 c2 c3
          have HPA : Hid (∀ (T : Nat → Prop), (∀ i, T i → w.heap.size ≤ i) → ∀ i, (Value.slice pa pl pc).ownBlock = some i → ps ≠ [] → ¬ T i) := fun T hT i hi h0 e => by have := HRP.out.blk_lt h0 hi; have := hT i e; omega
          have HF1 := hideP (power_any (.slice pa pl pc) ps W1 PK1.out.p.jd.dk (HRP.out.below PK1.out.p.jd.be) (HPA.out S PK1.out.p.jd.s0) (fun i => by have := HVN.out i; omega))
          unfold dp at HF1
          go_wp2_with fail
          refine HF1.out.mono ?_
          rintro e w11 ⟨rfl, d11⟩
          obtain ⟨S1, P11⟩ := PK1.out.dkTo d11 (pw_len s ps)
          have PK11 := hideP P11
          have HF2 := hideP (refPower_any (.slice pa pl pc) ps w11 P11.p.rf (HRP.out.below P11.p.jd.be) (HPA.out R P11.p.r0) (fun i => by have := HVN.out i; omega))
          have z3 := P11.bx.cell (i := 3) rfl
          have HOV := hideP (Dk.out_V PK1.out.p.jd.dk)
          clear HF1 d11 P11
          unfold dp at HF2
          go_wp2_with fail
          refine HF2.out.mono ?_
          rintro e w12 ⟨rfl, d12⟩
          obtain ⟨R1, P12⟩ := PK11.out.rfTo d12
          have PK12 := hideP P12
          have VK2 : Hid (Vk (s.pw ps) (k + 1)) := ⟨fun i => by rw [pw_V s ps HOV.out i]; exact Nat.zero_le _, by rw [pw_len]; exact VK.out.2⟩
          obtain ⟨s2, hs2⟩ : ∃ s2, Hid (s.pw ps = s2) := ⟨_, rfl⟩
          rw [hs2.out] at PK12 VK2
          clear HF2 d12 P12 PK11 PK1 q0 q1 q2 q3 z3
          have HO1 := hideP (open_any g w12 PK12.out.p.jd.dk PK12.out.p.jd.l5 PK12.out.p.jd.g1 PK12.out.p.jd.g2)
          unfold dp at HO1
          go_wp2_with fail
          refine HO1.out.mono ?_
          clear HO1
          rintro e w21 ⟨lv, rfl, r21, b21⟩
          have P21 := hideP (PK12.out.p.below b21)
          have HO2 := hideP (refOpenJ_any g w21 P21.out.rf P21.out.jd.l5 P21.out.jd.g1 P21.out.jd.g2)
          obtain ⟨la, lc, hle, _⟩ := id r21
          have HRL1 := hideP r21
          rw [hle] at HRL1 ⊢
          clear b21 r21 hle lv
          unfold dp at HO2
          go_wp2_with fail
          refine HO2.out.mono ?_
          clear HO2
          rintro e w22 ⟨lv2, rfl, r22, b22⟩
          have P22 := hideP (P21.out.below b22)
          have HSA := hideP (sameL_any _ lv2 _ w22 (HRL1.out.below b22) r22)
          obtain ⟨la2, lc2, hle2, _⟩ := id r22
          rw [hle2] at HSA ⊢
          obtain ⟨ln, hln⟩ : ∃ x, Hid ((jopen s2.has g).length = x) := ⟨_, rfl⟩
          rw [hln.out] at HSA ⊢
          clear b22 r22 hle2 lv2 HRL1 P21
          go_wp2_with fail
          refine HSA.out.mono ?_
          clear HSA
          rintro e w23 ⟨rfl, b23⟩
          have P23 := hideP (P22.out.below b23)
          clear b23 P22
          have x2 := Bo.cell P23.out.jr (i := 2) rfl
          have x3 := Bo.cell P23.out.jr (i := 3) rfl
          obtain ⟨ro, hro⟩ : ∃ x, 50 - a = x := ⟨_, rfl⟩
          have hroI : (48 : Int) - (u : Int) = (ro : Int) := by have := P23.out.jd.a5; omega
          have HRM : Hid (∀ W, Below w23.heap.size w23 W → Calls Try.prog 27 #[.pointer (some ⟨j, 0, none⟩)] W fun e w' => e = .returned (.int .i64 (ro : Int)) ∧ w' = W) := fun W hW => by
            have := room_any j d g m a W (Bo.below P23.out.jd.jb hW) P23.out.jd.a5
            rw [hro] at this
            exact this
          have HMN : Hid (∀ W, Below w23.heap.size w23 W → Calls Try.prog 28 #[.pointer (some ⟨j, 0, none⟩)] W fun e w' => e = .returned (.int .i64 (m : Int)) ∧ w' = W) := fun W hW => many_any j d g m a W (Bo.below P23.out.jd.jb hW)
          have hne1 : ((ro : Int) != (ro : Int)) = false := by simp
          have hne2 : ((m : Int) != (m : Int)) = false := by simp
          clear hro
          go_wp2_with fail
          go_quiet (first | (go_at_call 27; exact Calls.quiet_of_same (HRM.out _ (Below.of_drewN _ _ _))) | (go_at_call 28; exact Calls.quiet_of_same (HMN.out _ (Below.of_drewN _ _ _))))
          have P24 := hideP (P23.out.below (Below.of_drewN _ w23 nq))
          clear x2 x3 HRM HMN hne1 hne2 P23
          go_wp2_with fail
          go_roundw
          case rel => exact ⟨k + 1, g, m, a, u, j, q, S1, R1, s2, by omega, by go_num, rfl, rfl, rfl, by omega, by omega, P24, VK2⟩
          case measure => simp [intOf]; omega
      · as_aux_lemma =>
          cases hz : okG xn with
          | true =>
            obtain ⟨G, rfl⟩ : ∃ G : Nat, xn = (G : Int) := ⟨xn.toNat, by have := okG_iff.1 hz; omega⟩
            have hG := okG_iff.1 hz
            have hG1 : 1 ≤ G := by omega
            have hG2 : G ≤ 4294967295 := by omega
            have HZ := hideP hz
            clear hz hG
            have HP3 : Hid (Calls Try.prog 12 #[.int .i64 kind, .int .i64 6] W1 fun e w' => e = .returned (.int .i64 3) ∧ w' = W1) := by
              have := HPK.out
              rw [hc] at this
              exact this
            clear HPK hc hp6
            go_wp2_with fail
            refine HP3.out.mono ?_
            rintro e W1 ⟨rfl, rfl⟩
            clear hW1 HP3 c0 c1 c2 c3
            have HF1 := hideP (newJ_any (G : Int) W1 PK1.out.p.jd.dk PK1.out.p.jd.l5)
            unfold dp at HF1
            go_wp2_with fail
            refine HF1.out.mono ?_
            rintro e w11 (⟨_, rfl, jb, b11, s11⟩ | ⟨h, _⟩)
            case inr => rw [HZ.out] at h; cases h
            rw [Int.toNat_natCast] at jb
            have P11 := PK1.out.newj hG1 hG2 jb b11
            obtain ⟨j2, hj2⟩ : ∃ x, Hid (W1.heap.size = x) := ⟨_, rfl⟩
            rw [hj2.out] at P11 ⊢
            have PK11 := hideP P11
            have HF2 := hideP (refNewJ_any (G : Int) w11 P11.p.rf P11.p.jd.l5)
            have z2 := P11.bx.cell (i := 2) rfl
            clear HF1 P11 jb b11 s11
            unfold dp at HF2
            go_wp2_with fail
            refine HF2.out.mono ?_
            rintro e w12 (⟨_, rfl, jb, b12, s12⟩ | ⟨h, _⟩)
            case inr => rw [HZ.out] at h; cases h
            rw [Int.toNat_natCast] at jb
            have P12 := PK11.out.newq jb b12
            obtain ⟨qq, hqq2⟩ : ∃ x, Hid (w11.heap.size = x) := ⟨_, rfl⟩
            rw [hqq2.out] at P12 ⊢
            have PK12 := hideP P12
            have y2 := P12.bx.cell (i := 2) rfl
            have VK2 : Hid (Vk s (k + 1)) := ⟨fun i => by have := VK.out.1 i; omega, VK.out.2⟩
            clear HF2 P12 jb b12 s12 PK11 PK1 q0 q1 q2 q3 z2
            have HO1 := hideP (open_any G w12 PK12.out.p.jd.dk PK12.out.p.jd.l5 PK12.out.p.jd.g1 PK12.out.p.jd.g2)
            unfold dp at HO1
            go_wp2_with fail
            refine HO1.out.mono ?_
            clear HO1
            rintro e w21 ⟨lv, rfl, r21, b21⟩
            have P21 := hideP (PK12.out.p.below b21)
            have HO2 := hideP (refOpenJ_any G w21 P21.out.rf P21.out.jd.l5 P21.out.jd.g1 P21.out.jd.g2)
            obtain ⟨la, lc, hle, _⟩ := id r21
            have HRL1 := hideP r21
            rw [hle] at HRL1 ⊢
            clear b21 r21 hle lv
            unfold dp at HO2
            go_wp2_with fail
            refine HO2.out.mono ?_
            clear HO2
            rintro e w22 ⟨lv2, rfl, r22, b22⟩
            have P22 := hideP (P21.out.below b22)
            have HSA := hideP (sameL_any _ lv2 _ w22 (HRL1.out.below b22) r22)
            obtain ⟨la2, lc2, hle2, _⟩ := id r22
            rw [hle2] at HSA ⊢
            obtain ⟨ln, hln⟩ : ∃ x, Hid ((jopen s.has G).length = x) := ⟨_, rfl⟩
            rw [hln.out] at HSA ⊢
            clear b22 r22 hle2 lv2 HRL1 P21
            go_wp2_with fail
            refine HSA.out.mono ?_
            clear HSA
            rintro e w23 ⟨rfl, b23⟩
            have P23 := hideP (P22.out.below b23)
            clear b23 P22
            have x2 := Bo.cell P23.out.jr (i := 2) rfl
            have x3 := Bo.cell P23.out.jr (i := 3) rfl
            obtain ⟨ro, hro⟩ : ∃ x, 50 - 2 = x := ⟨_, rfl⟩
            have hroI : (48 : Int) - (0 : Int) = (ro : Int) := by have := P23.out.jd.a5; omega
            have HRM : Hid (∀ W, Below w23.heap.size w23 W → Calls Try.prog 27 #[.pointer (some ⟨j2, 0, none⟩)] W fun e w' => e = .returned (.int .i64 (ro : Int)) ∧ w' = W) := fun W hW => by
              have := room_any j2 d G 0 2 W (Bo.below P23.out.jd.jb hW) P23.out.jd.a5
              rw [hro] at this
              exact this
            have HMN : Hid (∀ W, Below w23.heap.size w23 W → Calls Try.prog 28 #[.pointer (some ⟨j2, 0, none⟩)] W fun e w' => e = .returned (.int .i64 (0 : Int)) ∧ w' = W) := fun W hW => many_any j2 d G 0 2 W (Bo.below P23.out.jd.jb hW)
            have hne1 : ((ro : Int) != (ro : Int)) = false := by simp
            have hne2 : ((0 : Int) != (0 : Int)) = false := by simp
            clear hro
            go_wp2_with fail
            go_quiet (first | (go_at_call 27; exact Calls.quiet_of_same (HRM.out _ (Below.of_drewN _ _ _))) | (go_at_call 28; exact Calls.quiet_of_same (HMN.out _ (Below.of_drewN _ _ _))))
            have P24 := hideP (P23.out.below (Below.of_drewN _ w23 nq))
            clear x2 x3 HRM HMN hne1 hne2 P23
            go_wp2_with fail
            go_roundw
            case rel => exact ⟨k + 1, G, 0, 2, 0, j2, qq, S, R, s, by omega, by go_num, rfl, rfl, rfl, by omega, by omega, P24, VK2⟩
            case measure => simp [intOf]; omega
          | false =>
            have HZ := hideP hz
            clear hz
            have HP3 : Hid (Calls Try.prog 12 #[.int .i64 kind, .int .i64 6] W1 fun e w' => e = .returned (.int .i64 3) ∧ w' = W1) := by
              have := HPK.out
              rw [hc] at this
              exact this
            clear HPK hc hp6
            go_wp2_with fail
            refine HP3.out.mono ?_
            rintro e W1 ⟨rfl, rfl⟩
            clear hW1 HP3 c0 c1 c2 c3
            have HF1 := hideP (newJ_any xn W1 PK1.out.p.jd.dk PK1.out.p.jd.l5)
            unfold dp at HF1
            go_wp2_with fail
            refine HF1.out.mono ?_
            rintro e w11 (⟨h, _⟩ | ⟨_, rfl, rfl⟩)
            case inl => rw [HZ.out] at h; cases h
            have HF2 := hideP (refNewJ_any xn w11 PK1.out.p.rf PK1.out.p.jd.l5)
            clear HF1
            unfold dp at HF2
            go_wp2_with fail
            refine HF2.out.mono ?_
            rintro e w12 (⟨h, _⟩ | ⟨_, rfl, rfl⟩)
            case inl => rw [HZ.out] at h; cases h
            have VK2 : Hid (Vk s (k + 1)) := ⟨fun i => by have := VK.out.1 i; omega, VK.out.2⟩
            clear HF2 q0 q1 q2 q3
            have HO1 := hideP (open_any g w12 PK1.out.p.jd.dk PK1.out.p.jd.l5 PK1.out.p.jd.g1 PK1.out.p.jd.g2)
            unfold dp at HO1
            go_wp2_with fail
            refine HO1.out.mono ?_
            clear HO1
            rintro e w21 ⟨lv, rfl, r21, b21⟩
            have P21 := hideP (PK1.out.p.below b21)
            have HO2 := hideP (refOpenJ_any g w21 P21.out.rf P21.out.jd.l5 P21.out.jd.g1 P21.out.jd.g2)
            obtain ⟨la, lc, hle, _⟩ := id r21
            have HRL1 := hideP r21
            rw [hle] at HRL1 ⊢
            clear b21 r21 hle lv
            unfold dp at HO2
            go_wp2_with fail
            refine HO2.out.mono ?_
            clear HO2
            rintro e w22 ⟨lv2, rfl, r22, b22⟩
            have P22 := hideP (P21.out.below b22)
            have HSA := hideP (sameL_any _ lv2 _ w22 (HRL1.out.below b22) r22)
            obtain ⟨la2, lc2, hle2, _⟩ := id r22
            rw [hle2] at HSA ⊢
            obtain ⟨ln, hln⟩ : ∃ x, Hid ((jopen s.has g).length = x) := ⟨_, rfl⟩
            rw [hln.out] at HSA ⊢
            clear b22 r22 hle2 lv2 HRL1 P21
            go_wp2_with fail
            refine HSA.out.mono ?_
            clear HSA
            rintro e w23 ⟨rfl, b23⟩
            have P23 := hideP (P22.out.below b23)
            clear b23 P22
            have x2 := Bo.cell P23.out.jr (i := 2) rfl
            have x3 := Bo.cell P23.out.jr (i := 3) rfl
            obtain ⟨ro, hro⟩ : ∃ x, 50 - a = x := ⟨_, rfl⟩
            have hroI : (48 : Int) - (u : Int) = (ro : Int) := by have := P23.out.jd.a5; omega
            have HRM : Hid (∀ W, Below w23.heap.size w23 W → Calls Try.prog 27 #[.pointer (some ⟨j, 0, none⟩)] W fun e w' => e = .returned (.int .i64 (ro : Int)) ∧ w' = W) := fun W hW => by
              have := room_any j d g m a W (Bo.below P23.out.jd.jb hW) P23.out.jd.a5
              rw [hro] at this
              exact this
            have HMN : Hid (∀ W, Below w23.heap.size w23 W → Calls Try.prog 28 #[.pointer (some ⟨j, 0, none⟩)] W fun e w' => e = .returned (.int .i64 (m : Int)) ∧ w' = W) := fun W hW => many_any j d g m a W (Bo.below P23.out.jd.jb hW)
            have hne1 : ((ro : Int) != (ro : Int)) = false := by simp
            have hne2 : ((m : Int) != (m : Int)) = false := by simp
            clear hro
            go_wp2_with fail
            go_quiet (first | (go_at_call 27; exact Calls.quiet_of_same (HRM.out _ (Below.of_drewN _ _ _))) | (go_at_call 28; exact Calls.quiet_of_same (HMN.out _ (Below.of_drewN _ _ _))))
            have P24 := hideP (P23.out.below (Below.of_drewN _ w23 nq))
            clear x2 x3 HRM HMN hne1 hne2 P23
            go_wp2_with fail
            go_roundw
            case rel => exact ⟨k + 1, g, m, a, u, j, q, S, R, s, by omega, by go_num, rfl, rfl, rfl, by omega, by omega, P24, VK2⟩
            case measure => simp [intOf]; omega
      · as_aux_lemma =>
          have HP4 : Hid (Calls Try.prog 12 #[.int .i64 kind, .int .i64 6] W1 fun e w' => e = .returned (.int .i64 4) ∧ w' = W1) := by
            have := HPK.out
            rw [hc] at this
            exact this
          clear HPK hc hp6
          go_wp2_with fail
          refine HP4.out.mono ?_
          rintro e W1 ⟨rfl, rfl⟩
          clear hW1 HP4 c0 c1 c2 c3
          obtain ⟨D, hD⟩ : ∃ D, Hid (data.take (min dl 232) = D) := ⟨_, rfl⟩
          obtain ⟨M, hM⟩ : ∃ M, min dl 232 = M := ⟨_, rfl⟩
          have HDM : Hid (D.length = M) := by show _ = _; rw [← hD.out, List.length_take, hdl.out, ← hM]; omega
          have hmin : min (dl : Int) 232 = (M : Int) := by omega
          have hM2 : M ≤ 232 := by omega
          have hM3 : M ≤ dl := by omega
          have HRM0 : Hid (Rd .u8 w (.slice da M dc) D) := by
            have := rd_upto HRD.out (m := M) (by rw [hdl.out]; exact hM3)
            rw [← hM, hD.out, hM] at this
            exact this
          have HBM : Hid (By D) := by rw [← hD.out]; exact HBD.out.take _
          have hsl : ∀ W, (Instr.sliceAt 36 (.slice da dl dc) none (some (.int .i64 (M : Int))) none).run Try.prog W = .ok (.slice da M dc) W := fun W => by
            rw [run_sliceAt_slice _ _ _ _ _ _ under8, run_slice_h _ _ _ _ _ under8 _ _ (by omega) (by omega), size8]
            simp [Result.andThen, sliced]
            intro _
            cases da <;> simp [Addr.add]
          have hp3 : pk xn 3 < 3 := pk_lt xn (by decide)
          obtain ⟨pn, hpn⟩ : ∃ x, Hid (pk xn 3 = x) := ⟨_, rfl⟩
          rw [hpn.out] at hp3
          have HP3 : Hid (∀ W, Calls Try.prog 12 #[.int .i64 xn, .int .i64 3] W fun e w' => e = .returned (.int .i64 (pn : Int)) ∧ w' = W) := fun W => by
            have := pickJ_any xn 3 (by decide) (by decide) HWN.out W
            rw [hpn.out] at this
            exact this
          obtain ⟨N3, hN3⟩ : ∃ x, 1 + pn = x := ⟨_, rfl⟩
          have HN3 : Hid (IntKind.i64.wrap (1 + (pn : Int)) = (N3 : Int)) := by show _ = _; rw [IntKind.wrap_i64]; omega
          have HOK : Hid (OkR ⟨0, 1, g, N3, D⟩) := ⟨by show 0 < 256; decide, by show 1 < 256; decide, by show g < 4294967296; omega, by show N3 < 4294967296; omega, by show D.length ≤ 240; rw [HDM.out]; omega⟩
          have HPC : Hid (∀ W, Below w.heap.size w W → Calls Try.prog 20 #[.int .i64 (g : Int), .int .i64 (N3 : Int), .int .i64 0, .int .i64 1, .slice da M dc] W fun e w' => ∃ v', e = .returned v' ∧ Owns .u8 5 w' v' (jsec ⟨0, 1, g, N3, D⟩) ∧ Below W.heap.size W w' ∧ ∀ k, v'.ownBlock = some k → W.heap.size ≤ k) := fun W hW => refPieceJ_any ⟨0, 1, g, N3, D⟩ _ W (HRM0.out.below hW) HBM.out HOK.out
          have HJL : Hid ((jsec ⟨0, 1, g, N3, D⟩).length = 256) := jsec_len HOK.out.len
          have HJB : Hid (By (jsec ⟨0, 1, g, N3, D⟩)) := jsec_by HBM.out
          obtain ⟨js, hjs⟩ : ∃ js, Hid (jsec ⟨0, 1, g, N3, D⟩ = js) := ⟨_, rfl⟩
          rw [hjs.out] at HPC HJL HJB
          have PKD := hideP (PK1.out.below (Below.refl _ _).drew)
          have k1 : W1.drew.cell? ⟨qb, 1, none⟩ = some (.slice da dl dc) := q1
          have k2 : W1.drew.cell? ⟨qb, 2, none⟩ = some (.int .i64 xn) := q2
          have HPW := hideP (HPC.out W1.drew PKD.out.p.jd.be)
          have HWR : Hid (∀ (W : World) (v : Value), Pk S R w W d r s s j g m a q g m u qb [.int .i64 kind, .slice da dl dc, .int .i64 xn, .slice pa pl pc] → Rd .u8 W v js → (∀ k, v.ownBlock = some k → ¬ S k) → Calls Try.prog 19 #[.pointer (some ⟨d, 0, none⟩), .int .i64 xn, v] W fun e w' => e = .returned (.int .i64 (wco s xn 256)) ∧ ∃ S2, Pk S2 R w w' d r (wrr s xn js) s j g m a q g m u qb [.int .i64 kind, .slice da dl dc, .int .i64 xn, .slice pa pl pc]) := fun W v h hr hv => (write_all xn v js W h.p.jd.dk hr HJB.out hv (fun i => by have := HVN.out i; omega)).mono (by
            rintro e w' ⟨rfl, hd⟩
            obtain ⟨S2, P2⟩ := h.dkTo hd (wrrJ_L s xn js)
            exact ⟨by rw [HJL.out], S2, P2⟩)
          clear hM hN3 q0 q1 q2 q3
          go_wp2_with fail
          refine @shareJ ?G _ (fun REST => ?main) ?rest
          case main =>
            go_region_held3 (fun w' => w'.cell? ⟨qb, 1, none⟩ = some (.slice da dl dc) ∧ w'.cell? ⟨qb, 2, none⟩ = some (.int .i64 xn)) (first | exact ⟨k1, k2⟩ | exact ⟨l1, l2⟩ | exact ⟨o1, o2⟩ | go_keep)
              (first
                | (go_at_call 12; refine (HP3.out _).mono ?_; rintro e WP ⟨rfl, rfl⟩)
                | (go_at_call 20; (try rw [HN3.out]); refine HPW.out.mono ?_; rintro e w11 ⟨v11, rfl, p11, b11, n11⟩; have PK11 := hideP (PKD.out.below b11); have R11 := hideP p11.rd; have N11 : Hid (∀ k, v11.ownBlock = some k → ¬ S k) := fun k hk e => by have h1 := n11 k hk; have h2 := PKD.out.p.jd.dk.slt k e; omega
                   have l1 := PK11.out.bx.cell (i := 1) rfl
                   have l2 := PK11.out.bx.cell (i := 2) rfl
                   clear p11 b11 n11)
                | (go_at_call 19; refine (HWR.out w11 v11 PK11.out R11.out N11.out).mono ?_; rintro e w12 ⟨rfl, S2, P12⟩; have PK12 := hideP P12; have o1 := P12.bx.cell (i := 1) rfl; have o2 := P12.bx.cell (i := 2) rfl; clear P12))
            all_goals
              clear o1 o2 l1 l2 R11 N11 PK11
              revert PK12
              revert S2
              revert v11 w12
              exact REST.out
          case rest =>
            intro v11 w12 HHX S2 PK12
            obtain ⟨wc, hwc⟩ : ∃ x, Hid (wco s xn 256 = x) := ⟨_, rfl⟩
            first | rw [hwc.out] | skip
            have PKE := hideP (PK12.out.below (Below.refl _ _).drew)
            have o1 := PK12.out.bx.cell (i := 1) rfl
            have o2 := PK12.out.bx.cell (i := 2) rfl
            have i1 : w12.drew.cell? ⟨qb, 1, none⟩ = some (.slice da dl dc) := o1
            have i2 : w12.drew.cell? ⟨qb, 2, none⟩ = some (.int .i64 xn) := o2
            have HPX := hideP (HPC.out w12.drew PKE.out.p.jd.be)
            have HWX : Hid (∀ (W : World) (v : Value), Pk S2 R w W d r (wrr s xn js) s j g m a q g m u qb [.int .i64 kind, .slice da dl dc, .int .i64 xn, .slice pa pl pc] → Rd .u8 W v js → (∀ k, v.ownBlock = some k → ¬ R k) → Calls Try.prog 21 #[.pointer (some ⟨r, 0, none⟩), .int .i64 xn, v] W fun e w' => e = .returned (.int .i64 wc) ∧ ∃ R2, Pk S2 R2 w w' d r (wrr s xn js) (wrr s xn js) j g m a q g m u qb [.int .i64 kind, .slice da dl dc, .int .i64 xn, .slice pa pl pc]) := fun W v h hr hv => (refWrite_all xn v js W h.p.rf hr HJB.out hv (fun i => by have := HVN.out i; omega)).mono (by
              rintro e w' ⟨rfl, hd⟩
              obtain ⟨R2, P2⟩ := h.rfTo hd
              exact ⟨by rw [HJL.out, hwc.out], R2, P2⟩)
            clear k1 k2 o1 o2 HPW HWR PKD PK1
            go_wp2_with fail
            refine @shareJ ?G2 _ (fun REST => ?main2) ?rest2
            case main2 =>
              go_region_held3 (fun w' => w'.cell? ⟨qb, 1, none⟩ = some (.slice da dl dc) ∧ w'.cell? ⟨qb, 2, none⟩ = some (.int .i64 xn)) (first | exact ⟨i1, i2⟩ | exact ⟨l1, l2⟩ | exact ⟨o1, o2⟩ | go_keep)
                (first
                  | (go_at_call 12; refine (HP3.out _).mono ?_; rintro e WP ⟨rfl, rfl⟩)
                  | (go_at_call 20; (try rw [HN3.out]); refine HPX.out.mono ?_; rintro e w13 ⟨v13, rfl, p13, b13, n13⟩; have PK13 := hideP (PKE.out.below b13); have R13 := hideP p13.rd; have N13 : Hid (∀ k, v13.ownBlock = some k → ¬ R k) := fun k hk e => by have h1 := n13 k hk; have h2 := PKE.out.p.rf.rlt k e; omega
                     have l1 := PK13.out.bx.cell (i := 1) rfl
                     have l2 := PK13.out.bx.cell (i := 2) rfl
                     clear p13 b13 n13)
                  | (go_at_call 21; refine (HWX.out w13 v13 PK13.out R13.out N13.out).mono ?_; rintro e w14 ⟨rfl, R2, P14⟩; have PK14 := hideP P14; have o1 := P14.bx.cell (i := 1) rfl; have o2 := P14.bx.cell (i := 2) rfl; clear P14))
              all_goals
                clear o1 o2 l1 l2 R13 N13 PK13
                revert PK14
                revert R2
                revert v13 w14
                exact REST.out
            case rest2 =>
              intro v13 w14 HHY R2 PK14
              have VK2 : Hid (Vk (wrr s xn js) (k + 1)) := ⟨fun i => by have := wrrJ_V s xn js i; have := VK.out.1 i; omega, by rw [wrrJ_L]; exact VK.out.2⟩
              obtain ⟨s2, hs2⟩ : ∃ s2, Hid (wrr s xn js = s2) := ⟨_, rfl⟩
              rw [hs2.out] at PK14 VK2
              clear i1 i2 HPX HWX PKE PK12
              have HO1 := hideP (open_any g w14 PK14.out.p.jd.dk PK14.out.p.jd.l5 PK14.out.p.jd.g1 PK14.out.p.jd.g2)
              unfold dp at HO1
              go_wp2_with fail
              refine HO1.out.mono ?_
              clear HO1
              rintro e w21 ⟨lv, rfl, r21, b21⟩
              have P21 := hideP (PK14.out.p.below b21)
              have HO2 := hideP (refOpenJ_any g w21 P21.out.rf P21.out.jd.l5 P21.out.jd.g1 P21.out.jd.g2)
              obtain ⟨la, lc, hle, _⟩ := id r21
              have HRL1 := hideP r21
              rw [hle] at HRL1 ⊢
              clear b21 r21 hle lv
              unfold dp at HO2
              go_wp2_with fail
              refine HO2.out.mono ?_
              clear HO2
              rintro e w22 ⟨lv2, rfl, r22, b22⟩
              have P22 := hideP (P21.out.below b22)
              have HSA := hideP (sameL_any _ lv2 _ w22 (HRL1.out.below b22) r22)
              obtain ⟨la2, lc2, hle2, _⟩ := id r22
              rw [hle2] at HSA ⊢
              obtain ⟨ln, hln⟩ : ∃ x, Hid ((jopen s2.has g).length = x) := ⟨_, rfl⟩
              rw [hln.out] at HSA ⊢
              clear b22 r22 hle2 lv2 HRL1 P21
              go_wp2_with fail
              refine HSA.out.mono ?_
              clear HSA
              rintro e w23 ⟨rfl, b23⟩
              have P23 := hideP (P22.out.below b23)
              clear b23 P22
              have x2 := Bo.cell P23.out.jr (i := 2) rfl
              have x3 := Bo.cell P23.out.jr (i := 3) rfl
              obtain ⟨ro, hro⟩ : ∃ x, 50 - a = x := ⟨_, rfl⟩
              have hroI : (48 : Int) - (u : Int) = (ro : Int) := by have := P23.out.jd.a5; omega
              have HRM : Hid (∀ W, Below w23.heap.size w23 W → Calls Try.prog 27 #[.pointer (some ⟨j, 0, none⟩)] W fun e w' => e = .returned (.int .i64 (ro : Int)) ∧ w' = W) := fun W hW => by
                have := room_any j d g m a W (Bo.below P23.out.jd.jb hW) P23.out.jd.a5
                rw [hro] at this
                exact this
              have HMN : Hid (∀ W, Below w23.heap.size w23 W → Calls Try.prog 28 #[.pointer (some ⟨j, 0, none⟩)] W fun e w' => e = .returned (.int .i64 (m : Int)) ∧ w' = W) := fun W hW => many_any j d g m a W (Bo.below P23.out.jd.jb hW)
              have hne1 : ((ro : Int) != (ro : Int)) = false := by simp
              have hne2 : ((m : Int) != (m : Int)) = false := by simp
              clear hro
              go_wp2_with fail
              go_quiet (first | (go_at_call 27; exact Calls.quiet_of_same (HRM.out _ (Below.of_drewN _ _ _))) | (go_at_call 28; exact Calls.quiet_of_same (HMN.out _ (Below.of_drewN _ _ _))))
              have P24 := hideP (P23.out.below (Below.of_drewN _ w23 nq))
              clear x2 x3 HRM HMN hne1 hne2 P23
              go_wp2_with fail
              go_roundw
              case rel => exact ⟨k + 1, g, m, a, u, j, q, S2, R2, s2, by omega, by go_num, rfl, rfl, rfl, by omega, by omega, P24, VK2⟩
              case measure => simp [intOf]; omega
      · as_aux_lemma =>
          have HP5 : Hid (Calls Try.prog 12 #[.int .i64 kind, .int .i64 6] W1 fun e w' => e = .returned (.int .i64 5) ∧ w' = W1) := by
            have := HPK.out
            rw [hc] at this
            exact this
          clear HPK hc hp6
          go_wp2_with fail
          refine HP5.out.mono ?_
          rintro e W1 ⟨rfl, rfl⟩
          clear hW1 HP5 c0 c1 c2 c3
          have HF1 := hideP (rot_all xn W1 PK1.out.p.jd.dk HWN.out)
          unfold dp at HF1
          go_wp2_with fail
          refine HF1.out.mono ?_
          rintro e w11 ⟨rfl, d11⟩
          obtain ⟨S1, P11⟩ := PK1.out.dkTo d11 (rttJ_L s xn)
          have PK11 := hideP P11
          have HF2 := hideP (refRot_all xn w11 P11.p.rf (fun i => by have := HVN.out i; omega))
          have z2 := P11.bx.cell (i := 2) rfl
          clear HF1 d11 P11
          unfold dp at HF2
          obtain ⟨cr, hcr⟩ : ∃ x, Hid (rco s xn = x) := ⟨_, rfl⟩
          rw [hcr.out] at HF2 ⊢
          go_wp2_with fail
          refine HF2.out.mono ?_
          rintro e w12 ⟨rfl, d12⟩
          obtain ⟨R1, P12⟩ := PK11.out.rfTo d12
          have PK12 := hideP P12
          have VK2 : Hid (Vk (rtt s xn) (k + 1)) := ⟨fun i => by rw [rttJ_V]; have := VK.out.1 i; omega, by rw [rttJ_L]; exact VK.out.2⟩
          obtain ⟨s2, hs2⟩ : ∃ s2, Hid (rtt s xn = s2) := ⟨_, rfl⟩
          rw [hs2.out] at PK12 VK2
          clear HF2 d12 P12 PK11 PK1 q0 q1 q2 q3 z2
          have HO1 := hideP (open_any g w12 PK12.out.p.jd.dk PK12.out.p.jd.l5 PK12.out.p.jd.g1 PK12.out.p.jd.g2)
          unfold dp at HO1
          go_wp2_with fail
          refine HO1.out.mono ?_
          clear HO1
          rintro e w21 ⟨lv, rfl, r21, b21⟩
          have P21 := hideP (PK12.out.p.below b21)
          have HO2 := hideP (refOpenJ_any g w21 P21.out.rf P21.out.jd.l5 P21.out.jd.g1 P21.out.jd.g2)
          obtain ⟨la, lc, hle, _⟩ := id r21
          have HRL1 := hideP r21
          rw [hle] at HRL1 ⊢
          clear b21 r21 hle lv
          unfold dp at HO2
          go_wp2_with fail
          refine HO2.out.mono ?_
          clear HO2
          rintro e w22 ⟨lv2, rfl, r22, b22⟩
          have P22 := hideP (P21.out.below b22)
          have HSA := hideP (sameL_any _ lv2 _ w22 (HRL1.out.below b22) r22)
          obtain ⟨la2, lc2, hle2, _⟩ := id r22
          rw [hle2] at HSA ⊢
          obtain ⟨ln, hln⟩ : ∃ x, Hid ((jopen s2.has g).length = x) := ⟨_, rfl⟩
          rw [hln.out] at HSA ⊢
          clear b22 r22 hle2 lv2 HRL1 P21
          go_wp2_with fail
          refine HSA.out.mono ?_
          clear HSA
          rintro e w23 ⟨rfl, b23⟩
          have P23 := hideP (P22.out.below b23)
          clear b23 P22
          have x2 := Bo.cell P23.out.jr (i := 2) rfl
          have x3 := Bo.cell P23.out.jr (i := 3) rfl
          obtain ⟨ro, hro⟩ : ∃ x, 50 - a = x := ⟨_, rfl⟩
          have hroI : (48 : Int) - (u : Int) = (ro : Int) := by have := P23.out.jd.a5; omega
          have HRM : Hid (∀ W, Below w23.heap.size w23 W → Calls Try.prog 27 #[.pointer (some ⟨j, 0, none⟩)] W fun e w' => e = .returned (.int .i64 (ro : Int)) ∧ w' = W) := fun W hW => by
            have := room_any j d g m a W (Bo.below P23.out.jd.jb hW) P23.out.jd.a5
            rw [hro] at this
            exact this
          have HMN : Hid (∀ W, Below w23.heap.size w23 W → Calls Try.prog 28 #[.pointer (some ⟨j, 0, none⟩)] W fun e w' => e = .returned (.int .i64 (m : Int)) ∧ w' = W) := fun W hW => many_any j d g m a W (Bo.below P23.out.jd.jb hW)
          have hne1 : ((ro : Int) != (ro : Int)) = false := by simp
          have hne2 : ((m : Int) != (m : Int)) = false := by simp
          clear hro
          go_wp2_with fail
          go_quiet (first | (go_at_call 27; exact Calls.quiet_of_same (HRM.out _ (Below.of_drewN _ _ _))) | (go_at_call 28; exact Calls.quiet_of_same (HMN.out _ (Below.of_drewN _ _ _))))
          have P24 := hideP (P23.out.below (Below.of_drewN _ w23 nq))
          clear x2 x3 HRM HMN hne1 hne2 P23
          go_wp2_with fail
          go_roundw
          case rel => exact ⟨k + 1, g, m, a, u, j, q, S1, R1, s2, by omega, by go_num, rfl, rfl, rfl, by omega, by omega, P24, VK2⟩
          case measure => simp [intOf]; omega
    · have hkl : ¬ (k : Int) < (n : Int) := by omega
      have HLV := hideP (lives_anyJ wr)
      have HBE := hideP PQ.out.jd.be
      go_wp2_with fail
      refine HLV.out.mono ?_
      rintro e w3 ⟨rfl, b3⟩
      have B3 : Hid (Below w.heap.size w w3) := HBE.out.trans (b3.mono HBE.out.size)
      clear b3
      go_wp2_with fail
      go_ret
      exact ⟨rfl, B3.out⟩
end Go.Proofs.Ytaacidgihhcpkaa
