import Derived.Test.YtobenjkacpipeaaGreatPPkPk1
set_option maxRecDepth 100000
set_option linter.unusedVariables false
set_option linter.unusedSimpArgs false
set_option maxHeartbeats 8000000
namespace Go.Proofs.YtobenjkacpipeaaGreat
open Go.RowKit Pl
structure Pb (w w' : World) (D : Nat) (a : Option Addr) (n cap : Nat) (g : Nat) (ov : Value) (xs : List Int) : Prop where
 bel : Below w.heap.size w w'
 hD : D = w.heap.size
 dat : w'.heap[D]? = some (.cells #[.slice a n cap] 22 (0, 0))
 sk : Sk w' g ov 0 xs
 hg : D < g
 hov : ∀ k, ov.ownBlock = some k -> D < k
theorem Pb.c {w w' : World} {D : Nat} {a : Option Addr} {n cap g : Nat} {ov : Value} {xs : List Int} (h : Pb w w' D a n cap g ov xs) : w'.cell? ⟨D, 0, none⟩ = some (.slice a n cap) := by rw [cell_of_row w' D 0 _ _ (0, 0) h.dat]; rfl
theorem Pb.blw {w w' w2 : World} {D : Nat} {a : Option Addr} {n cap g : Nat} {ov : Value} {xs : List Int} (h : Pb w w' D a n cap g ov xs) (hb : Below w'.heap.size w' w2) : Pb w w2 D a n cap g ov xs :=
 ⟨h.bel.trans (hb.mono h.bel.size), h.hD, by rw [(Tch.of_below (S := fun _ => False) hb).block D (by have := (Array.getElem?_eq_some_iff.1 h.dat).1; exact this) (fun e => e)]; exact h.dat, h.sk.below hb, h.hg, h.hov⟩
theorem Pb.to {w w' w2 : World} {D : Nat} {a : Option Addr} {n cap g : Nat} {ov ov2 : Value} {xs ys : List Int} (h : Pb w w' D a n cap g ov xs) (ht : SkTo w' g ov w2 ov2 0 ys) : Pb w w2 D a n cap g ov2 ys := by
 have hd := (Array.getElem?_eq_some_iff.1 h.dat).1
 refine ⟨h.bel.trans (ht.tch.below h.bel.size (fun k e => ?_)), h.hD, ?_, ht.sk, h.hg, fun k hk => ?_⟩
 ·have := h.hD
  rcases e with e | e
  ·have := h.hg; omega
  ·have := h.hov k e; omega
 ·rw [ht.tch.block D hd (fun e => ?_)]
  ·exact h.dat
  ·rcases e with e | e
   ·have := h.hg; omega
   ·have := h.hov D e; omega
 ·rcases ht.fresh k hk with e | e
  ·exact h.hov k e
  ·omega
structure Pc (w w' : World) (D : Nat) (a : Option Addr) (n cap : Nat) (g : Nat) (ov : Value) (xs : List Int) (g2 : Nat) (ov2 : Value) (ys : List Int) : Prop where
 p : Pb w w' D a n cap g ov xs
 q : Pb w w' D a n cap g2 ov2 ys
 ne : g2 ≠ g
 ne1 : ov.ownBlock ≠ some g2
 ne2 : ∀ k, ov2.ownBlock = some k -> k ≠ g /\ ov.ownBlock ≠ some k
theorem Pc.blw {w w' w2 : World} {D : Nat} {a : Option Addr} {n cap g g2 : Nat} {ov ov2 : Value} {xs ys : List Int} (h : Pc w w' D a n cap g ov xs g2 ov2 ys) (hb : Below w'.heap.size w' w2) : Pc w w2 D a n cap g ov xs g2 ov2 ys :=
 ⟨h.p.blw hb, h.q.blw hb, h.ne, h.ne1, h.ne2⟩
theorem Pc.to {w w' w2 : World} {D : Nat} {a : Option Addr} {n cap g g2 : Nat} {ov ov2 ov3 : Value} {xs ys zs : List Int} (h : Pc w w' D a n cap g ov xs g2 ov2 ys) (ht : SkTo w' g2 ov2 w2 ov3 0 zs) : Pc w w2 D a n cap g ov xs g2 ov3 zs := by
 have q := h.q.to ht
 refine ⟨⟨q.bel, q.hD, q.dat, h.p.sk.tch ht.tch (fun e => ?_) (fun k hk e => ?_), h.p.hg, h.p.hov⟩, q, h.ne, h.ne1, fun k hk => ?_⟩
 ·rcases e with e | e
  ·exact h.ne e.symm
  ·exact (h.ne2 g e).1 rfl
 ·rcases e with e | e
  ·exact h.ne1 (by rw [<- e]; exact hk)
  ·exact (h.ne2 k e).2 hk
 ·rcases ht.fresh k hk with e | e
  ·exact h.ne2 k e
  ·have h1 := h.p.sk.lt
   exact ⟨by omega, fun e2 => by have := h.p.sk.own.lt k e2; omega⟩
theorem Pb.head {w w' : World} {D : Nat} {a : Option Addr} {n cap g : Nat} {ov : Value} {xs : List Int} (h : Pb w w' D a n cap g ov xs) (mode : Int) (hn : n <= 65536) :
  Calls Tryz.prog 8 #[.int .u8 mode, .pointer (some ⟨D, 0, none⟩)] w' fun e w2 => ∃ g2 ov2, e = .returned (.pointer (some ⟨g2, 0, none⟩)) /\ Pc w w2 D a n cap g ov xs g2 ov2 ([mode] ++ digits n) := by
 refine (zha9 D mode a n cap w' h.c hn).mono ?_
 rintro e w2 ⟨g2, ov2, rfl, hs, hb, hg, hf⟩
 have p := h.blw hb
 have hd := (Array.getElem?_eq_some_iff.1 h.dat).1
 have hl := h.sk.lt
 refine ⟨g2, ov2, rfl, p, ⟨p.bel, p.hD, p.dat, hs, by omega, fun k hk => by have := hf k hk; omega⟩, by omega, fun e => by have := h.sk.own.lt g2 e; omega, fun k hk => ?_⟩
 have := hf k hk
 exact ⟨by omega, fun e => by have := h.sk.own.lt k e; omega⟩
theorem Pc.asRun {w w' : World} {D : Nat} {a : Option Addr} {n cap g g2 : Nat} {ov ov2 : Value} {xs ys : List Int} (h : Pc w w' D a n cap g ov xs g2 ov2 ys) (ds : List Int) (hr : Rd .u8 w (.slice a n cap) ds) (h0 : 0 < ds.length) (hold : ∀ k, (Value.slice a n cap).ownBlock = some k -> k < w.heap.size) (hl : ys.length <= 1000) :
  Calls Tryz.prog 13 #[.pointer (some ⟨g2, 0, none⟩), .slice a n cap] w' fun e w2 => e = .returned (.pointer (some ⟨g2, 0, none⟩)) /\ ∃ ov3, Pc w w2 D a n cap g ov xs g2 ov3 (ys ++ [ds.getD 0 0]) := by
 refine (zss9 g2 ov2 0 ys _ ds w' h.q.sk (hr.below h.q.bel) h0 (fun e => by have := hold g2 e; have := h.q.hg; have := h.q.hD; omega) hl).mono ?_
 rintro e w2 ⟨rfl, ov3, h3⟩
 exact ⟨rfl, ov3, h.to h3⟩
theorem Pc.asPacked {w w' : World} {D : Nat} {a : Option Addr} {n cap g g2 : Nat} {ov ov2 : Value} {xs ys : List Int} (h : Pc w w' D a n cap g ov xs g2 ov2 ys) (ds : List Int) (hr : Rd .u8 w (.slice a n cap) ds) (hy : By ds) (h0 : 0 < ds.length) (hn : ds.length <= 65536) (hold : ∀ k, (Value.slice a n cap).ownBlock = some k -> k < w.heap.size) (hl : ys.length <= 1000) :
  Calls Tryz.prog 14 #[.pointer (some ⟨g2, 0, none⟩), .slice a n cap] w' fun e w2 => e = .returned (.pointer (some ⟨g2, 0, none⟩)) /\ ∃ ov3 bs, PkdR ds bs /\ Pc w w2 D a n cap g ov xs g2 ov3 (ys ++ bs) := by
 refine (zkr9 g2 ov2 ys _ ds w' h.q.sk (hr.below h.q.bel) hy h0 hn (fun e => by have := hold g2 e; have := h.q.hg; have := h.q.hD; omega) (fun k hk e => by have := hold k hk; have := h.q.hov k e; have := h.q.hD; omega) hl).mono ?_
 rintro e w2 ⟨rfl, ov3, bs, hb, h3⟩
 exact ⟨rfl, ov3, bs, hb, h.to h3⟩
def shr (xs ys : List Int) : List Int := if ys.length < xs.length then ys else xs
theorem Pc.shorter {w w' : World} {D : Nat} {a : Option Addr} {n cap g g2 : Nat} {ov ov2 : Value} {xs ys : List Int} (h : Pc w w' D a n cap g ov xs g2 ov2 ys) :
  Calls Tryz.prog 12 #[.pointer (some ⟨g, 0, none⟩), .pointer (some ⟨g2, 0, none⟩)] w' fun e w2 => ∃ g3 ov3, e = .returned (.pointer (some ⟨g3, 0, none⟩)) /\ Pb w w2 D a n cap g3 ov3 (shr xs ys) := by
 refine (zni9 g g2 ov ov2 0 0 xs ys w' h.p.sk h.q.sk).mono ?_
 rintro e w2 ⟨rfl, q, rfl⟩
 have hb : Below w'.heap.size w' (w'.drewN q) := Below.of_drewN _ _ _
 unfold shr
 by_cases hlt : ys.length < xs.length
 ·rw [if_pos hlt, if_pos hlt]; exact ⟨g2, ov2, rfl, h.q.blw hb⟩
 ·rw [if_neg hlt, if_neg hlt]; exact ⟨g, ov, rfl, h.p.blw hb⟩
def rawB (ds : List Int) : List Int := [0] ++ digits ds.length ++ ds
def runB (ds : List Int) : List Int := [1] ++ digits ds.length ++ [ds.getD 0 0]
def best1 (ds : List Int) : List Int := if alike ds then shr (rawB ds) (runB ds) else rawB ds
def PackR (ds out : List Int) : Prop := ∃ b, out = b ++ sumB (crc ds) /\ ((ds.length = 0 /\ b = rawB ds) ∨ (0 < ds.length /\ ∃ bs, PkdR ds bs /\ b = shr (best1 ds) ([2] ++ digits ds.length ++ bs)))
theorem shr_le (xs ys : List Int) : (shr xs ys).length <= xs.length := by unfold shr; split <;> omega
theorem zlv9 (ds : List Int) : (rawB ds).length <= ds.length + 6 := by have := ze9 (ds.length : Int); simp [rawB]; omega
theorem zjx9 (ds : List Int) : (best1 ds).length <= ds.length + 6 := by
 unfold best1
 split
 ·exact Nat.le_trans (shr_le _ _) (zlv9 ds)
 ·exact zlv9 ds
theorem zww9 (v : Value) (ds : List Int) (w : World) (hr : Rd .u8 w v ds) (hy : By ds) (hn : ds.length <= 65536) (hold : ∀ k, v.ownBlock = some k -> k < w.heap.size) (hcase : ds.length = 0) :
  Calls Tryz.prog 4 #[v] w fun e w' => ∃ ov out, e = .returned (.tuple #[ov, .int .i64 0]) /\ PackR ds out /\ Owns .u8 5 w' ov out /\ Below w.heap.size w w' /\ ∀ k, ov.ownBlock = some k -> w.heap.size <= k := by
 have hmf : ∀ fn first cap w, (Instr.makeFunc fn first cap).run Tryz.prog w = .ok (.func fn first cap) w := fun _ _ _ _ => rfl
 obtain ⟨a, cap, rfl, hlc, hcm, hnil, hcc⟩ := hr
 have HR : Hid (Rd .u8 w (.slice a ds.length cap) ds) := ⟨a, cap, rfl, hlc, hcm, hnil, hcc⟩
 have HY : Hid (By ds) := hy
 have HOLD : Hid (∀ k, (Value.slice a ds.length cap).ownBlock = some k -> k < w.heap.size) := hold
 have HCS : Hid (ds.length = 0) := hcase
 have HAL : Hid (alike ds = false) := by show _ = _; unfold alike; rw [decide_eq_false_iff_not]; exact fun e => by omega
 obtain ⟨n, hn2⟩ : ∃ n, ds.length = n := ⟨_, rfl⟩
 have HN : Hid (ds.length = n) := hn2
 have hn3 : n = 0 := by rw [<- hn2]; exact hcase
 have HDL : Hid ((digits (n : Int)).length <= 5) := (ze9 _).2
 rw [hn2] at hn hlc HR HOLD ⊢
 clear hcc hnil hy hold hn2 hcase
 subst hn3
 go_enter Tryz.func4, Tryz.ntmps4
 go_wp2_with fail
 obtain ⟨W0, hW0⟩ : ∃ W0, Hid (w.alloc (.cells #[.slice a 0 cap] 22) = W0) := ⟨_, rfl⟩
 rw [hW0.out]
 obtain ⟨D, hD⟩ : ∃ D, w.heap.size = D := ⟨_, rfl⟩
 rw [hD]
 have D0 : Hid (W0.heap[D]? = some (.cells #[.slice a 0 cap] 22 (0, 0))) := by rw [<- hW0.out, <- hD]; exact heap_alloc_new w _
 have B0 : Hid (Below w.heap.size w W0) := by rw [<- hW0.out]; exact (Below.refl _ _).alloc (Nat.le_refl _) _
 clear hW0
 refine (zha9 D 0 a 0 cap W0 (by rw [cell_of_row W0 D 0 _ _ (0, 0) D0.out]; rfl) hn).mono ?_
 rintro e w1 ⟨g, ov, rfl, hs, hb, hg, hf⟩
 have P1 : Hid (Pb w w1 D a 0 cap g ov ([0] ++ digits ((0 : Nat) : Int))) := by
  have hd := (Array.getElem?_eq_some_iff.1 D0.out).1
  refine ⟨B0.out.trans (hb.mono B0.out.size), hD.symm, ?_, hs, by omega, fun k hk => by have := hf k hk; omega⟩
  rw [(Tch.of_below (S := fun _ => False) hb).block D hd (fun e => e)]; exact D0.out
 have c1 := P1.out.c
 clear D0 B0 hs hb hg hf
 go_wp2_with fail
 refine (zaf9 g ov 0 0 _ _ ds w1 P1.out.sk (HR.out.below P1.out.bel) (fun e => by have := HOLD.out g e; have := P1.out.hg; omega) (by have := HDL.out; have := HN.out; simp only [List.length_append, List.length_cons, List.length_nil]; omega)).mono ?_
 rintro e w2 ⟨rfl, ov2, h2⟩
 rw [zm9] at h2
 have P2 : Hid (Pb w w2 D a 0 cap g ov2 (rawB ds)) := by have := P1.out.to h2; unfold rawB; rw [HN.out]; exact this
 have c2 := P2.out.c
 clear h2 P1 c1
 go_wp2_with fail
 refine (zhf9 _ ds w2 (HR.out.below P2.out.bel) HY.out).mono ?_
 rintro e w3 ⟨rfl, rfl⟩
 rw [HAL.out]
 go_wp2_with fail
 obtain ⟨B, hB0⟩ : ∃ B, rawB ds = B := ⟨_, rfl⟩
 have hB : Hid (rawB ds = B) := hB0
 clear hB0
 have PZ : Hid (Pb w w3 D a 0 cap g ov2 B) := by rw [<- hB.out]; exact P2.out
 have HBL : Hid (B.length <= 70000) := by
  show _ <= _
  rw [<- hB.out]
  have := zlv9 ds
  have := HN.out
  omega
 clear P2
 have cz := PZ.out.c
 go_wp2_with fail
 refine (zhk9 g ov2 0 B _ ds w3 PZ.out.sk (HR.out.below PZ.out.bel) HY.out (by have := HBL.out; omega)).mono ?_
 rintro e wz ⟨rfl, oz, hz⟩
 have PY : Hid (Pb w wz D a 0 cap g oz (B ++ sumB (crc ds))) := PZ.out.to hz
 have k0 := PY.out.sk.c0
 have k1 := PY.out.sk.c1
 clear hz PZ cz
 go_wp2_with fail
 go_ret2
 refine ⟨oz, _, rfl, ⟨B, rfl, ?_⟩, PY.out.sk.own, PY.out.bel, fun k hk => by have := PY.out.hov k hk; omega⟩
 exact .inl ⟨HCS.out, hB.out.symm⟩
theorem zxh9 (v : Value) (ds : List Int) (w : World) (hr : Rd .u8 w v ds) (hy : By ds) (hn : ds.length <= 65536) (hold : ∀ k, v.ownBlock = some k -> k < w.heap.size) (hcase : 0 < ds.length /\ alike ds = true) :
  Calls Tryz.prog 4 #[v] w fun e w' => ∃ ov out, e = .returned (.tuple #[ov, .int .i64 0]) /\ PackR ds out /\ Owns .u8 5 w' ov out /\ Below w.heap.size w w' /\ ∀ k, ov.ownBlock = some k -> w.heap.size <= k := by
 have hmf : ∀ fn first cap w, (Instr.makeFunc fn first cap).run Tryz.prog w = .ok (.func fn first cap) w := fun _ _ _ _ => rfl
 obtain ⟨a, cap, rfl, hlc, hcm, hnil, hcc⟩ := hr
 have HR : Hid (Rd .u8 w (.slice a ds.length cap) ds) := ⟨a, cap, rfl, hlc, hcm, hnil, hcc⟩
 have HY : Hid (By ds) := hy
 have HOLD : Hid (∀ k, (Value.slice a ds.length cap).ownBlock = some k -> k < w.heap.size) := hold
 have HCS : Hid (0 < ds.length /\ alike ds = true) := hcase
 have HAL : Hid (alike ds = true) := hcase.2
 obtain ⟨n, hn2⟩ : ∃ n, ds.length = n := ⟨_, rfl⟩
 have HN : Hid (ds.length = n) := hn2
 have hn3 : 0 < n := by rw [<- hn2]; exact hcase.1
 have HDL : Hid ((digits (n : Int)).length <= 5) := (ze9 _).2
 rw [hn2] at hn hlc HR HOLD ⊢
 clear hcc hnil hy hold hn2 hcase
 go_enter Tryz.func4, Tryz.ntmps4
 go_wp2_with fail
 obtain ⟨W0, hW0⟩ : ∃ W0, Hid (w.alloc (.cells #[.slice a n cap] 22) = W0) := ⟨_, rfl⟩
 rw [hW0.out]
 obtain ⟨D, hD⟩ : ∃ D, w.heap.size = D := ⟨_, rfl⟩
 rw [hD]
 have D0 : Hid (W0.heap[D]? = some (.cells #[.slice a n cap] 22 (0, 0))) := by rw [<- hW0.out, <- hD]; exact heap_alloc_new w _
 have B0 : Hid (Below w.heap.size w W0) := by rw [<- hW0.out]; exact (Below.refl _ _).alloc (Nat.le_refl _) _
 clear hW0
 refine (zha9 D 0 a n cap W0 (by rw [cell_of_row W0 D 0 _ _ (0, 0) D0.out]; rfl) hn).mono ?_
 rintro e w1 ⟨g, ov, rfl, hs, hb, hg, hf⟩
 have P1 : Hid (Pb w w1 D a n cap g ov ([0] ++ digits n)) := by
  have hd := (Array.getElem?_eq_some_iff.1 D0.out).1
  refine ⟨B0.out.trans (hb.mono B0.out.size), hD.symm, ?_, hs, by omega, fun k hk => by have := hf k hk; omega⟩
  rw [(Tch.of_below (S := fun _ => False) hb).block D hd (fun e => e)]; exact D0.out
 have c1 := P1.out.c
 clear D0 B0 hs hb hg hf
 go_wp2_with fail
 refine (zaf9 g ov 0 0 _ _ ds w1 P1.out.sk (HR.out.below P1.out.bel) (fun e => by have := HOLD.out g e; have := P1.out.hg; omega) (by have := HDL.out; have := HN.out; simp only [List.length_append, List.length_cons, List.length_nil]; omega)).mono ?_
 rintro e w2 ⟨rfl, ov2, h2⟩
 rw [zm9] at h2
 have P2 : Hid (Pb w w2 D a n cap g ov2 (rawB ds)) := by have := P1.out.to h2; unfold rawB; rw [HN.out]; exact this
 have c2 := P2.out.c
 clear h2 P1 c1
 go_wp2_with fail
 refine (zhf9 _ ds w2 (HR.out.below P2.out.bel) HY.out).mono ?_
 rintro e w3 ⟨rfl, rfl⟩
 rw [HAL.out]
 go_wp2_with fail
 go_region_held3 (fun w' => w'.cell? ⟨D, 0, none⟩ = some (.slice a n cap)) (go_keep)
  (first
   | (go_at_call 8; refine ((P2.out.blw (by repeat (first | exact Below.refl _ _ | apply Below.drew))).head 1 hn).mono ?_; rintro e wa1 ⟨g1, oa1, rfl, hpc⟩; have PA1 : Hid (Pc w wa1 D a n cap g ov2 (rawB ds) g1 oa1 ([1] ++ digits n)) := hpc; clear hpc; have ca1 := PA1.out.p.c)
   | (go_at_call 13; refine ((PA1.out.blw (by repeat (first | exact Below.refl _ _ | apply Below.drew))).asRun ds HR.out HCS.out.1 HOLD.out (by have := HDL.out; simp; omega)).mono ?_; rintro e wb1 ⟨rfl, ob1, hpc⟩; have PB1 : Hid (Pc w wb1 D a n cap g ov2 (rawB ds) g1 ob1 (([1] ++ digits n) ++ [ds.getD 0 0])) := hpc; clear hpc; have cb1 := PB1.out.p.c)
   | (go_at_call 12; refine ((PB1.out.blw (by repeat (first | exact Below.refl _ _ | apply Below.drew))).shorter).mono ?_; rintro e wc1 ⟨gn1, on1, rfl, hpc⟩; have PN1a : Hid (Pb w wc1 D a n cap gn1 on1 _) := hpc; clear hpc; have cc1 := PN1a.out.c))
 have PN1 : Hid (Pb w wc1 D a n cap gn1 on1 (best1 ds)) := by
  have := PN1a.out
  show Pb _ _ _ _ _ _ _ _ _
  unfold best1 runB
  rw [if_pos HAL.out, HN.out]
  exact this
 clear PN1a PA1 PB1 ca1 cb1 cc1 P2 c2
 have c3 := PN1.out.c
 go_wp2_with fail
 go_region_held3 (fun w' => w'.cell? ⟨D, 0, none⟩ = some (.slice a n cap)) (go_keep)
  (first
   | (go_at_call 8; refine ((PN1.out.blw (by repeat (first | exact Below.refl _ _ | apply Below.drew))).head 2 hn).mono ?_; rintro e wa2 ⟨g2, oa2, rfl, hpc⟩; have PA2 : Hid (Pc w wa2 D a n cap gn1 on1 (best1 ds) g2 oa2 ([2] ++ digits n)) := hpc; clear hpc; have ca2 := PA2.out.p.c)
   | (go_at_call 14; refine ((PA2.out.blw (by repeat (first | exact Below.refl _ _ | apply Below.drew))).asPacked ds HR.out HY.out HCS.out.1 (by have := HN.out; omega) HOLD.out (by have := HDL.out; simp; omega)).mono ?_; rintro e wb2 ⟨rfl, ob2, bs, hbs, hpc⟩; have HBS : Hid (PkdR ds bs) := hbs; have PB2 : Hid (Pc w wb2 D a n cap gn1 on1 (best1 ds) g2 ob2 (([2] ++ digits n) ++ bs)) := hpc; clear hpc hbs; have cb2 := PB2.out.p.c)
   | (go_at_call 12; refine ((PB2.out.blw (by repeat (first | exact Below.refl _ _ | apply Below.drew))).shorter).mono ?_; rintro e wc2 ⟨gn2, on2, rfl, hpc⟩; have PN2a : Hid (Pb w wc2 D a n cap gn2 on2 _) := hpc; clear hpc; have cc2 := PN2a.out.c))
 clear PN1 PA2 PB2 ca2 cb2 c3
 obtain ⟨B, hB0⟩ : ∃ B, shr (best1 ds) (([2] ++ digits n) ++ bs) = B := ⟨_, rfl⟩
 have hB : Hid (shr (best1 ds) (([2] ++ digits n) ++ bs) = B) := hB0
 clear hB0
 have PZ : Hid (Pb w wc2 D a n cap gn2 on2 B) := by rw [<- hB.out]; exact PN2a.out
 have HBL : Hid (B.length <= 70000) := by
  show _ <= _
  rw [<- hB.out]
  have := Nat.le_trans (shr_le (best1 ds) (([2] ++ digits n) ++ bs)) (zjx9 ds)
  have := HN.out
  omega
 clear PN2a
 have cz := PZ.out.c
 go_wp2_with fail
 refine (zhk9 gn2 on2 0 B _ ds wc2 PZ.out.sk (HR.out.below PZ.out.bel) HY.out (by have := HBL.out; omega)).mono ?_
 rintro e wz ⟨rfl, oz, hz⟩
 have PY : Hid (Pb w wz D a n cap gn2 oz (B ++ sumB (crc ds))) := PZ.out.to hz
 have k0 := PY.out.sk.c0
 have k1 := PY.out.sk.c1
 clear hz PZ cz
 go_wp2_with fail
 go_ret2
 refine ⟨oz, _, rfl, ⟨B, rfl, ?_⟩, PY.out.sk.own, PY.out.bel, fun k hk => by have := PY.out.hov k hk; omega⟩
 exact .inr ⟨HCS.out.1, bs, HBS.out, by rw [HN.out]; exact hB.out.symm⟩
theorem zwv9 (v : Value) (ds : List Int) (w : World) (hr : Rd .u8 w v ds) (hy : By ds) (hn : ds.length <= 65536) (hold : ∀ k, v.ownBlock = some k -> k < w.heap.size) (hcase : 0 < ds.length /\ alike ds = false) :
  Calls Tryz.prog 4 #[v] w fun e w' => ∃ ov out, e = .returned (.tuple #[ov, .int .i64 0]) /\ PackR ds out /\ Owns .u8 5 w' ov out /\ Below w.heap.size w w' /\ ∀ k, ov.ownBlock = some k -> w.heap.size <= k := by
 have hmf : ∀ fn first cap w, (Instr.makeFunc fn first cap).run Tryz.prog w = .ok (.func fn first cap) w := fun _ _ _ _ => rfl
 obtain ⟨a, cap, rfl, hlc, hcm, hnil, hcc⟩ := hr
 have HR : Hid (Rd .u8 w (.slice a ds.length cap) ds) := ⟨a, cap, rfl, hlc, hcm, hnil, hcc⟩
 have HY : Hid (By ds) := hy
 have HOLD : Hid (∀ k, (Value.slice a ds.length cap).ownBlock = some k -> k < w.heap.size) := hold
 have HCS : Hid (0 < ds.length /\ alike ds = false) := hcase
 have HAL : Hid (alike ds = false) := hcase.2
 obtain ⟨n, hn2⟩ : ∃ n, ds.length = n := ⟨_, rfl⟩
 have HN : Hid (ds.length = n) := hn2
 have hn3 : 0 < n := by rw [<- hn2]; exact hcase.1
 have HDL : Hid ((digits (n : Int)).length <= 5) := (ze9 _).2
 rw [hn2] at hn hlc HR HOLD ⊢
 clear hcc hnil hy hold hn2 hcase
 go_enter Tryz.func4, Tryz.ntmps4
 go_wp2_with fail
 obtain ⟨W0, hW0⟩ : ∃ W0, Hid (w.alloc (.cells #[.slice a n cap] 22) = W0) := ⟨_, rfl⟩
 rw [hW0.out]
 obtain ⟨D, hD⟩ : ∃ D, w.heap.size = D := ⟨_, rfl⟩
 rw [hD]
 have D0 : Hid (W0.heap[D]? = some (.cells #[.slice a n cap] 22 (0, 0))) := by rw [<- hW0.out, <- hD]; exact heap_alloc_new w _
 have B0 : Hid (Below w.heap.size w W0) := by rw [<- hW0.out]; exact (Below.refl _ _).alloc (Nat.le_refl _) _
 clear hW0
 refine (zha9 D 0 a n cap W0 (by rw [cell_of_row W0 D 0 _ _ (0, 0) D0.out]; rfl) hn).mono ?_
 rintro e w1 ⟨g, ov, rfl, hs, hb, hg, hf⟩
 have P1 : Hid (Pb w w1 D a n cap g ov ([0] ++ digits n)) := by
  have hd := (Array.getElem?_eq_some_iff.1 D0.out).1
  refine ⟨B0.out.trans (hb.mono B0.out.size), hD.symm, ?_, hs, by omega, fun k hk => by have := hf k hk; omega⟩
  rw [(Tch.of_below (S := fun _ => False) hb).block D hd (fun e => e)]; exact D0.out
 have c1 := P1.out.c
 clear D0 B0 hs hb hg hf
 go_wp2_with fail
 refine (zaf9 g ov 0 0 _ _ ds w1 P1.out.sk (HR.out.below P1.out.bel) (fun e => by have := HOLD.out g e; have := P1.out.hg; omega) (by have := HDL.out; have := HN.out; simp only [List.length_append, List.length_cons, List.length_nil]; omega)).mono ?_
 rintro e w2 ⟨rfl, ov2, h2⟩
 rw [zm9] at h2
 have P2 : Hid (Pb w w2 D a n cap g ov2 (rawB ds)) := by have := P1.out.to h2; unfold rawB; rw [HN.out]; exact this
 have c2 := P2.out.c
 clear h2 P1 c1
 go_wp2_with fail
 refine (zhf9 _ ds w2 (HR.out.below P2.out.bel) HY.out).mono ?_
 rintro e w3 ⟨rfl, rfl⟩
 rw [HAL.out]
 go_wp2_with fail
 have PN1 : Hid (Pb w w3 D a n cap g ov2 (best1 ds)) := by
  have := P2.out
  show Pb _ _ _ _ _ _ _ _ _
  unfold best1
  rw [if_neg (by rw [HAL.out]; exact Bool.false_ne_true)]
  exact this
 clear P2
 have c3 := PN1.out.c
 go_region_held3 (fun w' => w'.cell? ⟨D, 0, none⟩ = some (.slice a n cap)) (go_keep)
  (first
   | (go_at_call 8; refine ((PN1.out.blw (by repeat (first | exact Below.refl _ _ | apply Below.drew))).head 2 hn).mono ?_; rintro e wa2 ⟨g2, oa2, rfl, hpc⟩; have PA2 : Hid (Pc w wa2 D a n cap g ov2 (best1 ds) g2 oa2 ([2] ++ digits n)) := hpc; clear hpc; have ca2 := PA2.out.p.c)
   | (go_at_call 14; refine ((PA2.out.blw (by repeat (first | exact Below.refl _ _ | apply Below.drew))).asPacked ds HR.out HY.out HCS.out.1 (by have := HN.out; omega) HOLD.out (by have := HDL.out; simp; omega)).mono ?_; rintro e wb2 ⟨rfl, ob2, bs, hbs, hpc⟩; have HBS : Hid (PkdR ds bs) := hbs; have PB2 : Hid (Pc w wb2 D a n cap g ov2 (best1 ds) g2 ob2 (([2] ++ digits n) ++ bs)) := hpc; clear hpc hbs; have cb2 := PB2.out.p.c)
   | (go_at_call 12; refine ((PB2.out.blw (by repeat (first | exact Below.refl _ _ | apply Below.drew))).shorter).mono ?_; rintro e wc2 ⟨gn2, on2, rfl, hpc⟩; have PN2a : Hid (Pb w wc2 D a n cap gn2 on2 _) := hpc; clear hpc; have cc2 := PN2a.out.c))
 clear PN1 PA2 PB2 ca2 cb2 c3
 obtain ⟨B, hB0⟩ : ∃ B, shr (best1 ds) (([2] ++ digits n) ++ bs) = B := ⟨_, rfl⟩
 have hB : Hid (shr (best1 ds) (([2] ++ digits n) ++ bs) = B) := hB0
 clear hB0
 have PZ : Hid (Pb w wc2 D a n cap gn2 on2 B) := by rw [<- hB.out]; exact PN2a.out
 have HBL : Hid (B.length <= 70000) := by
  show _ <= _
  rw [<- hB.out]
  have := Nat.le_trans (shr_le (best1 ds) (([2] ++ digits n) ++ bs)) (zjx9 ds)
  have := HN.out
  omega
 clear PN2a
 have cz := PZ.out.c
 go_wp2_with fail
 refine (zhk9 gn2 on2 0 B _ ds wc2 PZ.out.sk (HR.out.below PZ.out.bel) HY.out (by have := HBL.out; omega)).mono ?_
 rintro e wz ⟨rfl, oz, hz⟩
 have PY : Hid (Pb w wz D a n cap gn2 oz (B ++ sumB (crc ds))) := PZ.out.to hz
 have k0 := PY.out.sk.c0
 have k1 := PY.out.sk.c1
 clear hz PZ cz
 go_wp2_with fail
 go_ret2
 refine ⟨oz, _, rfl, ⟨B, rfl, ?_⟩, PY.out.sk.own, PY.out.bel, fun k hk => by have := PY.out.hov k hk; omega⟩
 exact .inr ⟨HCS.out.1, bs, HBS.out, by rw [HN.out]; exact hB.out.symm⟩
theorem zqd9 (v : Value) (ds : List Int) (w : World) (hr : Rd .u8 w v ds) (hy : By ds) (hn : ds.length <= 65536) (hold : ∀ k, v.ownBlock = some k -> k < w.heap.size) :
  Calls Tryz.prog 4 #[v] w fun e w' => ∃ ov out, e = .returned (.tuple #[ov, .int .i64 0]) /\ PackR ds out /\ Owns .u8 5 w' ov out /\ Below w.heap.size w w' /\ ∀ k, ov.ownBlock = some k -> w.heap.size <= k := by
 by_cases h0 : ds.length = 0
 ·exact zww9 v ds w hr hy hn hold h0
 ·cases h : alike ds with
  | true => exact zxh9 v ds w hr hy hn hold ⟨by omega, h⟩
  | false => exact zwv9 v ds w hr hy hn hold ⟨by omega, h⟩
end Go.Proofs.YtobenjkacpipeaaGreat
