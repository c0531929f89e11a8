/-
  The places of all symbols, symbol by symbol.
-/
import Derived.Test.YtcmnhgefeffcpaaFSpr
namespace Go.Proofs.Ytcmnhgefeffcpaa
open Go.RowKit Pl
set_option linter.unusedVariables false

/-- Where each symbol's places begin, when k are told. -/
def fs (f : Nat → Nat) (k i : Nat) : Int := if i < k then (cu f i : Int) else 0
/-- .. and the places, when p are laid. -/
def sp (f : Nat → Nat) (L z p i : Nat) : Int := if i < 64 then fs f L i else (pl f L z p (i - 64) : Int)
/-- Where the next place of each symbol goes. -/
def nxF (f : Nat → Nat) (L z p i : Nat) : Int := if i < L then ((cu f i + ah f L z i p : Nat) : Int) else 0

theorem fs_step (f : Nat → Nat) (k i : Nat) : upd (fs f k) k (cu f k : Int) i = fs f (k + 1) i := by
  unfold upd fs
  by_cases e : i = k
  · subst e; rw [if_pos rfl, if_pos (by omega)]
  · rw [if_neg e]
    by_cases c : i < k
    · rw [if_pos c, if_pos (by omega)]
    · rw [if_neg c, if_neg (by omega)]
theorem sp_start (f : Nat → Nat) (L z i : Nat) (hL : L ≤ 64) : fs f L i = sp f L z 0 i := by
  unfold sp
  split
  · rfl
  · unfold fs; rw [if_neg (by omega)]; rfl
theorem sp_step (f : Nat → Nat) (L z p i : Nat) : upd (sp f L z p) (64 + ix f L z p) (p : Int) i = sp f L z (p + 1) i := by
  unfold upd sp
  by_cases e : i = 64 + ix f L z p
  · rw [if_pos e, if_neg (by omega)]
    simp only [pl]
    rw [if_pos (by omega)]
  · rw [if_neg e]
    by_cases c : i < 64
    · rw [if_pos c, if_pos c]
    · rw [if_neg c, if_neg c]
      simp only [pl]
      rw [if_neg (by omega)]
theorem nx_start (f : Nat → Nat) (L z i : Nat) : fs f L i = nxF f L z 0 i := by
  unfold nxF fs; simp [ah]
theorem nx_at {f : Nat → Nat} {L z : Nat} (h : Fok f L z) (p : Nat) : nxF f L z p (tb f L z p) = (ix f L z p : Int) := by
  unfold nxF; rw [if_pos (h.tb_lt p)]; rfl
theorem nx_step {f : Nat → Nat} {L z : Nat} (h : Fok f L z) (p i : Nat) : upd (nxF f L z p) (tb f L z p) ((ix f L z p : Int) + 1) i = nxF f L z (p + 1) i := by
  have hl := h.tb_lt p
  unfold upd nxF
  by_cases e : i = tb f L z p
  · subst e
    rw [if_pos rfl, if_pos hl]
    simp only [ah, if_true, ix]
    omega
  · rw [if_neg e]
    by_cases c : i < L
    · rw [if_pos c, if_pos c]
      simp only [ah]
      rw [if_neg (fun h => e h.symm)]
      rfl
    · rw [if_neg c, if_neg c]

/-- The world of the second loop. -/
structure SpW (W0 wr : World) (gs gn gt : Nat) (f : Nat → Nat) (L z p : Nat) : Prop where
  s : Iv wr gs 46 576 (sp f L z p)
  n : Iv wr gn 43 64 (nxF f L z p)
  t : Iv wr gt 68 1536 (tc f L z z)
  ne : gs ≠ gn ∧ gs ≠ gt ∧ gn ≠ gt
  tch : Tch (fun k => k = gs ∨ k = gn) W0 wr

theorem SpW.alloc {W0 wr : World} {gs gn gt : Nat} {f : Nat → Nat} {L z p : Nat} (h : SpW W0 wr gs gn gt f L z p) (o : Obj) : SpW W0 (wr.alloc o) gs gn gt f L z p := by
  have hb : Below wr.heap.size wr (wr.alloc o) := (Below.refl _ _).alloc (Nat.le_refl _) _
  exact ⟨h.s.below hb, h.n.below hb, h.t.below hb, h.ne, h.tch.alloc o⟩

theorem SpW.step {W0 wr : World} {gs gn gt : Nat} {f : Nat → Nat} {L z p : Nat} (h : SpW W0 wr gs gn gt f L z p) (hk : Fok f L z) (hL : L ≤ 64) (hp : p < z) :
    SpW W0 ((wr.setCell ⟨gs, 64 + ix f L z p, none⟩ (.int .i64 (p : Int))).setCell ⟨gn, tb f L z p, none⟩ (.int .i64 ((ix f L z p : Int) + 1))) gs gn gt f L z (p + 1) := by
  have hz := hk.zok.pos
  have hi := hk.ix_lt hp
  have ht := hk.tb_lt p
  have s1 := h.s.set (64 + ix f L z p) (by omega) (p : Int)
  have t1 : Tch (fun k => k = gs) wr (wr.setCell ⟨gs, 64 + ix f L z p, none⟩ (.int .i64 (p : Int))) := Tch.setCell (Tch.refl (fun k => k = gs) wr) (p := ⟨gs, 64 + ix f L z p, none⟩) (fun _ => rfl) _
  have t2 : Tch (fun k => k = gn) (wr.setCell ⟨gs, 64 + ix f L z p, none⟩ (.int .i64 (p : Int))) ((wr.setCell ⟨gs, 64 + ix f L z p, none⟩ (.int .i64 (p : Int))).setCell ⟨gn, tb f L z p, none⟩ (.int .i64 ((ix f L z p : Int) + 1))) :=
    Tch.setCell (Tch.refl (fun k => k = gn) _) (p := ⟨gn, tb f L z p, none⟩) (fun _ => rfl) _
  have n1 := (h.n.tch t1 (fun e => h.ne.1 e.symm)).set (tb f L z p) (by omega) ((ix f L z p : Int) + 1)
  refine ⟨(s1.tch t2 h.ne.1).congr (fun i _ => sp_step f L z p i), n1.congr (fun i _ => nx_step hk p i), (h.t.tch t1 (fun e => h.ne.2.1 e.symm)).tch t2 (fun e => h.ne.2.2 e.symm), h.ne, ?_⟩
  exact (h.tch.trans t1 (fun _ _ e => .inl e)).trans t2 (fun _ _ e => .inr e)

set_option maxRecDepth 100000 in
set_option maxHeartbeats 4000000 in
theorem spotsOf_any (v : Value) (s : List Int) (lg z : Nat) (w : World) (hr : Rd .i64 w v s) (hk : Sok s lg) (hz : 2 ^ lg = z) :
    Calls Try.prog 22 #[v, .int .i64 z] w fun e w' => e = .returned (.agg (ics 576 (sp (nn s) s.length z z)).toArray) ∧ Below w.heap.size w w' := by
  have HR : Hid (Rd .i64 w v s) := hr
  obtain ⟨a, cap, rfl, hlc, hcm, _, hcc⟩ := hr
  have HC : Hid (s = [] ∨ ∃ b o, a = some ⟨b, o, none⟩ ∧ ∀ i, i < s.length → w.cell? ⟨b, o + i, none⟩ = some (.int .i64 (s.getD i 0))) := hcc
  have HK : Hid (Sok s lg) := hk
  have HZ : Hid (2 ^ lg = z) := hz
  have HF : Hid (Fok (nn s) s.length z) := by show Fok _ _ _; rw [← hz]; exact hk.fok
  have hz1 := HF.out.zok.pos
  have hlen := hk.len
  obtain ⟨hvT, hiT⟩ := zero_of_info info_tab
  have HIT : Hid ((Try.prog.info? 68).map (·.size) = some 1536) := hiT
  obtain ⟨hvN, hiN⟩ := zero_of_info info_i64
  have HIN : Hid ((Try.prog.info? 43).map (·.size) = some 64) := hiN
  obtain ⟨hvS, hiS⟩ := zero_of_info info_spots
  have HIS : Hid ((Try.prog.info? 46).map (·.size) = some 576) := hiS
  clear hcc hiT hiN hiS hk hz
  obtain ⟨ZT, hZT⟩ : ∃ Z, Hid ((ics 1536 (fun _ => 0)).toArray = Z) := ⟨_, rfl⟩
  obtain ⟨ZN, hZN⟩ : ∃ Z, Hid ((ics 64 (fun _ => 0)).toArray = Z) := ⟨_, rfl⟩
  obtain ⟨ZS, hZS⟩ : ∃ Z, Hid ((ics 576 (fun _ => 0)).toArray = Z) := ⟨_, rfl⟩
  rw [hZT.out] at hvT
  rw [hZN.out] at hvN
  rw [hZS.out] at hvS
  have HVT : Hid (∀ (w : World), Sem.run Try.prog (zeroValue 68) w = Result.ok (Value.agg ZT) w) := hvT
  have HVN : Hid (∀ (w : World), Sem.run Try.prog (zeroValue 43) w = Result.ok (Value.agg ZN) w) := hvN
  have HZTL : Hid (ZT.size = 1536) := by show _ = _; rw [← hZT.out, ics_size]
  have HZNL : Hid (ZN.size = 64) := by show _ = _; rw [← hZN.out, ics_size]
  have HZSL : Hid (ZS.size = 576) := by show _ = _; rw [← hZS.out, ics_size]
  clear hvT hvN
  obtain ⟨F, hF⟩ : ∃ F, Hid (ics 576 (sp (nn s) s.length z z) = F) := ⟨_, rfl⟩
  rw [hF.out]
  go_enter Try.func22, Try.ntmps22
  go_wp2_with fail
  obtain ⟨g, hg⟩ : ∃ g, w.heap.size + 1 = g := ⟨_, rfl⟩
  have C0 : Hid (Iv ((w.alloc (.cells ZS 46)).alloc (.cells ZS 46)) g 46 576 (fs (nn s) 0)) := by
    have h0 := iv_new (w.alloc (.cells ZS 46)) 46 576 (fun _ => 0)
    rw [hZS.out] at h0
    rw [← hg]
    have h1 := h0.congr (d := fs (nn s) 0) (fun i _ => by simp [fs])
    rw [World.size_alloc] at h1
    exact h1
  have B0 : Hid (Below w.heap.size w ((w.alloc (.cells ZS 46)).alloc (.cells ZS 46))) := ((Below.refl _ _).alloc (Nat.le_refl _) _).alloc (by simp) _
  have R0 : Hid (((w.alloc (.cells ZS 46)).alloc (.cells ZS 46)).heap[w.heap.size]? = some (.cells ZS 46 (0, 0))) := by
    show _ = _
    rw [Below.heap_alloc _ _ _ (by simp)]
    exact heap_alloc_new w _
  obtain ⟨W0, hW0⟩ : ∃ W0, Hid ((w.alloc (.cells ZS 46)).alloc (.cells ZS 46) = W0) := ⟨_, rfl⟩
  rw [hW0.out] at C0 B0 R0 ⊢
  clear hvS
  rw [hg]
  go_loopw [6, 15] (fun x i wr => ∃ (k A : Nat), k ≤ s.length ∧ i = .int .i64 k ∧ x = .int .i64 A ∧ A ≤ 512 ∧ Hid (A = cu (nn s) k) ∧ Hid (Iv wr g 46 576 (fs (nn s) k)) ∧ Hid (Tch (fun k => k = g) W0 wr)) (fun _ i _ => s.length - (intOf i).toNat)
  case atStart => exact ⟨0, 0, Nat.zero_le _, rfl, rfl, by omega, rfl, C0, Tch.refl _ _⟩
  case round =>
    obtain ⟨k, A, hk, rfl, rfl, hA, HA, CV, T⟩ := hrel
    by_cases hlt : k < s.length
    · obtain ⟨ab, ao, ha, hc⟩ : ∃ b o, a = some ⟨b, o, none⟩ ∧ ∀ i, i < s.length → w.cell? ⟨b, o + i, none⟩ = some (.int .i64 (s.getD i 0)) := by
        rcases HC.out with rfl | h
        · simp at hlt
        · exact h
      subst ha
      obtain ⟨m, hm⟩ : ∃ m, Hid (nn s k = m) := ⟨_, rfl⟩
      have cx : wr.cell? ⟨ab, ao + k, none⟩ = some (.int .i64 (m : Int)) := by
        have h0 := hc k hlt
        have hl0 := World.block_lt_of_cell? w ⟨ab, ao + k, none⟩ h0
        have h1 := B0.out.cell (p := ⟨ab, ao + k, none⟩) hl0
        rw [T.out.cell (p := ⟨ab, ao + k, none⟩) (by have := B0.out.size; simp only at hl0 ⊢; omega) (fun e => by simp only at hl0 e; omega), h1, h0, (HK.out.le k).1, hm.out]
      have HM : Hid (A + m = cu (nn s) (k + 1)) := by show _ = _; simp only [cu]; rw [hm.out, HA.out]
      have hAm : A + m ≤ 512 := by
        have h1 := cu_mono (nn s) (show k + 1 ≤ s.length from hlt)
        have h2 := HF.out.sum
        rw [← HM.out] at h1
        omega
      have c0 := CV.out.at_ k (by omega)
      have f0 := CV.out.fz k
      have CV2 : Hid (Iv (wr.setCell ⟨g, k, none⟩ (.int .i64 (A : Int))) g 46 576 (fs (nn s) (k + 1))) := by
        refine (CV.out.set k (by omega) (A : Int)).congr (fun i _ => ?_)
        rw [HA.out]; exact fs_step _ _ _
      have T2 : Hid (Tch (fun k => k = g) W0 (wr.setCell ⟨g, k, none⟩ (.int .i64 (A : Int)))) := Tch.setCell T.out (p := ⟨g, k, none⟩) (fun _ => rfl) _
      have hi0 : (0 : Int) ≤ (k : Int) := by omega
      have hi1 : (k : Int) < 64 := by omega
      have hi2 : (k : Int) ≤ 63 := by omega
      clear hc CV T
      go_wp2_with fail
      go_roundw
      case rel => exact ⟨k + 1, A + m, by omega, by go_num, by go_num, hAm, HM, CV2, T2⟩
      case measure => simp [intOf]; omega
    · obtain rfl : k = s.length := by omega
      clear HA
      obtain ⟨FN, hFN⟩ : ∃ FN, Hid (ics 64 (fs (nn s) s.length) = FN) := ⟨_, rfl⟩
      have HRG : Hid (wr.rangeAt g 0 FN) := by
        rw [← hFN.out]
        intro j x hx
        have hj : j < 64 := by have := (List.getElem?_eq_some_iff.1 hx).1; rw [ics_length] at this; exact this
        rw [ics_get _ _ _ hj] at hx
        rw [Nat.zero_add, CV.out.at_ j (by omega)]
        exact hx
      have HNL : Hid (FN.length = 64) := by show _ = _; rw [← hFN.out, ics_length]
      have HNS : Hid (FN.toArray.size = 64) := by show _ = _; rw [List.size_toArray]; exact HNL.out
      have HNO : Hid (FN.toArray.all (·.oneCell') = true) := by show _ = _; rw [← hFN.out]; exact ics_one _ _
      have hvN := HVN.out
      go_wp2_with (first | (refine wpList_load_mid rfl 43 (.tmp 28) rfl g 0 rfl FN _ HRG.out Try.underlying43 rfl (by rw [HNL.out]; exact HIN.out) ?_) | (refine wpList_store_newF wr rfl 43 (.tmp 9) (.tmp 29) rfl ZN FN.toArray rfl rfl (by rw [HNS.out]; exact HIN.out) (by rw [HNS.out, HZNL.out]) HNO.out ?_))
      clear hvN
      have HB1 : Hid (Below w.heap.size w wr) := B0.out.trans (T.out.below B0.out.size (fun k e => by rw [e, ← hg]; omega))
      have HB2 : Hid (Below w.heap.size w (wr.alloc (.cells FN.toArray 43))) := HB1.out.alloc HB1.out.size _
      have NV : Hid (Iv (wr.alloc (.cells FN.toArray 43)) wr.heap.size 43 64 (nxF (nn s) s.length z 0)) := by
        have h := iv_new wr 43 64 (fs (nn s) s.length)
        rw [hFN.out] at h
        exact h.congr (fun i _ => nx_start _ _ _ i)
      have SV : Hid (Iv (wr.alloc (.cells FN.toArray 43)) g 46 576 (sp (nn s) s.length z 0)) :=
        (CV.out.below ((Below.refl _ _).alloc (Nat.le_refl _) _)).congr (fun i _ => sp_start _ _ _ i hlen)
      have hgw : g < wr.heap.size := CV.out.lt
      refine (spread_anyF _ s lg z _ (HR.out.below HB2.out) HK.out HZ.out).mono ?_
      rintro e w2 ⟨rfl, hb2⟩
      have HBW : Hid (Below (wr.alloc (.cells FN.toArray 43)).heap.size (wr.alloc (.cells FN.toArray 43)) w2) := hb2
      have hn2 : wr.heap.size < w2.heap.size := by have := hb2.size; simp at this; omega
      clear hb2
      obtain ⟨FT, hFT⟩ : ∃ FT, Hid (ics 1536 (tc (nn s) s.length z z) = FT) := ⟨_, rfl⟩
      have HTS : Hid (FT.toArray.size = 1536) := by show _ = _; rw [List.size_toArray, ← hFT.out, ics_length]
      have HTO : Hid (FT.toArray.all (·.oneCell') = true) := by show _ = _; rw [← hFT.out]; exact ics_one _ _
      rw [hFT.out]
      have hvT := HVT.out
      go_wp2_with (refine wpList_store_newF w2 rfl 68 (.tmp 10) (.tmp 32) rfl ZT FT.toArray rfl rfl (by rw [HTS.out]; exact HIT.out) (by rw [HTS.out, HZTL.out]) HTO.out ?_)
      clear hvT
      have S0 : Hid (SpW (w2.alloc (.cells FT.toArray 68)) (w2.alloc (.cells FT.toArray 68)) g wr.heap.size w2.heap.size (nn s) s.length z 0) := by
        have hb : Below w2.heap.size w2 (w2.alloc (.cells FT.toArray 68)) := (Below.refl _ _).alloc (Nat.le_refl _) _
        have ht := iv_new w2 68 1536 (tc (nn s) s.length z z)
        rw [hFT.out] at ht
        exact ⟨(SV.out.below HBW.out).below hb, (NV.out.below HBW.out).below hb, ht, ⟨by omega, by omega, by omega⟩, Tch.refl _ _⟩
      have HB3 : Hid (Below w.heap.size w (w2.alloc (.cells FT.toArray 68))) := by
        have h1 := HB2.out.trans (HBW.out.mono HB2.out.size)
        exact h1.alloc h1.size _
      have R3 : Hid ((w2.alloc (.cells FT.toArray 68)).heap[w.heap.size]? = some (.cells ZS 46 (0, 0))) := by
        show _ = _
        have hlt0 := (Array.getElem?_eq_some_iff.1 R0.out).1
        rw [Below.heap_alloc _ _ _ (by omega), HBW.out.block w.heap.size (by simp; omega), Below.heap_alloc _ _ _ (by omega), T.out.block w.heap.size hlt0 (fun e => by omega)]
        exact R0.out
      obtain ⟨gn, hgn⟩ : ∃ gn, wr.heap.size = gn := ⟨_, rfl⟩
      obtain ⟨gt, hgt⟩ : ∃ gt, w2.heap.size = gt := ⟨_, rfl⟩
      obtain ⟨W3, hW3⟩ : ∃ W3, Hid (w2.alloc (.cells FT.toArray 68) = W3) := ⟨_, rfl⟩
      have hwg : w.heap.size < gn := by omega
      rw [hW3.out, hgn, hgt] at S0
      rw [hW3.out] at HB3 R3 ⊢
      rw [hgn, hgt]
      clear SV NV CV T HBW HB1 HB2 hgn hgt hn2 hgw HRG
      have hzI0 : (0 : Int) ≤ (z : Int) := by omega
      have hzI1 : (z : Int) ≤ 512 := by omega
      go_wp2_with fail
      rw [slice_tab gt z (by omega)]
      go_wp2_with fail
      go_loopw [36] (fun i wr => ∃ p : Nat, p ≤ z ∧ i = .int .i64 p ∧ Hid (SpW W3 wr g gn gt (nn s) s.length z p)) (fun i _ => z - (intOf i).toNat)
      case atStart => exact ⟨0, Nat.zero_le _, rfl, S0⟩
      case round =>
        clear S0
        obtain ⟨p, hp, rfl, SW⟩ := hrel
        by_cases hlt : p < z
        · have SWA := fun o => SW.out.alloc o
          obtain ⟨q, hq⟩ : ∃ q, Hid (tb (nn s) s.length z p = q) := ⟨_, rfl⟩
          obtain ⟨I, hI⟩ : ∃ I, Hid (ix (nn s) s.length z p = I) := ⟨_, rfl⟩
          have hq1 : q < s.length := by rw [← hq.out]; exact HF.out.tb_lt p
          have hI1 : I < z := by rw [← hI.out]; exact HF.out.ix_lt hlt
          have t0 : wr.cell? ⟨gt, p * 3, none⟩ = some (.int .i64 (q : Int)) := by
            rw [SW.out.t.at_ (p * 3) (by omega), tc_at _ _ _ _ _ hlt, tj_end _ _ _ _ (by omega), hq.out]
          have t1 : wr.cell? ⟨gt, p * 3 + 1, none⟩ = some (.int .i64 0) := by
            rw [SW.out.t.at_ (p * 3 + 1) (by omega)]; unfold tc; rw [if_neg (by omega)]
          have t2 : wr.cell? ⟨gt, p * 3 + 2, none⟩ = some (.int .i64 0) := by
            rw [SW.out.t.at_ (p * 3 + 2) (by omega)]; unfold tc; rw [if_neg (by omega)]
          have hgtl : gt < wr.heap.size := SW.out.t.lt
          have hgnl : gn < wr.heap.size := SW.out.n.lt
          have hgsl : g < wr.heap.size := SW.out.s.lt
          have hne := SW.out.ne
          have n0 : wr.cell? ⟨gn, q, none⟩ = some (.int .i64 (I : Int)) := by
            rw [SW.out.n.at_ q (by omega), ← hq.out, nx_at HF.out p, hI.out]
          have n1 := SW.out.n.fz q
          obtain ⟨y, hy⟩ : ∃ y, Hid (sp (nn s) s.length z p (64 + I) = y) := ⟨_, rfl⟩
          have s0 : wr.cell? ⟨g, 64 + I, none⟩ = some (.int .i64 y) := by rw [SW.out.s.at_ (64 + I) (by omega), hy.out]
          have s1 := SW.out.s.fz (64 + I)
          have HSW : Hid (∀ o, SpW W3 (((wr.setCell ⟨g, 64 + I, none⟩ (.int .i64 (p : Int))).setCell ⟨gn, q, none⟩ (.int .i64 ((I : Int) + 1))).alloc o) g gn gt (nn s) s.length z (p + 1)) := fun o => by
            have h := SW.out.step HF.out hlen hlt
            rw [hq.out, hI.out] at h
            exact h.alloc o
          have hi0 : (0 : Int) ≤ (p : Int) := by omega
          have hi1 : (p : Int) < 512 := by omega
          have hi2 : (p : Int) ≤ 511 := by omega
          have hj0 : (0 : Int) ≤ (q : Int) := by omega
          have hj1 : (q : Int) < 64 := by omega
          have hj2 : (q : Int) ≤ 63 := by omega
          have hk0 : (0 : Int) ≤ (I : Int) := by omega
          have hk1 : (I : Int) < 512 := by omega
          have hk2 : (I : Int) ≤ 511 := by omega
          clear SWA SW
          go_wp2_with fail
          go_roundw
          case rel => exact ⟨p + 1, by omega, by go_num, HSW.out _⟩
          case measure => simp [intOf]; omega
        · obtain rfl : p = z := by omega
          have RR : Hid (wr.there w.heap.size 0 576) := by
            refine there_of_blockF (C := ZS) (t := 46) ?_ HZSL.out
            rw [SW.out.tch.block w.heap.size (Array.getElem?_eq_some_iff.1 R3.out).1 (fun e => by rcases e with e | e <;> omega)]
            exact R3.out
          have HRG : Hid (wr.rangeAt g 0 F) := by rw [← hF.out]; exact SW.out.s.range
          have HPL : Hid (F.length = 576) := by show _ = _; rw [← hF.out, ics_length]
          have HSZ : Hid (F.toArray.size = 576) := by show _ = _; rw [List.size_toArray]; exact HPL.out
          have HON : Hid (F.toArray.all (·.oneCell') = true) := by show _ = _; rw [← hF.out]; exact ics_one _ _
          go_wp2_with (first | (refine wpList_load_mid rfl 46 (.tmp 5) rfl g 0 rfl F _ HRG.out Try.underlying46 rfl (by rw [HPL.out]; exact HIS.out) ?_) | (refine wpList_store_mid rfl 46 (.tmp 4) (.tmp 55) rfl w.heap.size 0 F.toArray rfl rfl (by rw [HSZ.out]; exact RR.out) (by rw [HSZ.out]; exact HIS.out) HON.out ?_))
          have hld := run_loadVar_mid (P := Try.prog) (wr.setCells w.heap.size 0 F.toArray.toList) w.heap.size 0 46 F _ (by
            have := World.rangeAt_setCells_same wr w.heap.size 0 F.toArray.toList (by rw [Array.length_toList, HSZ.out]; exact RR.out)
            simpa using this) Try.underlying46 rfl (by rw [HPL.out]; exact HIS.out)
          refine bodyPost_ret (v := .agg F.toArray) ?_ rfl ⟨rfl, ?_⟩
          · exact results_atF (p := 4) (ty := 46) rfl _ _ _ w.heap.size _ rfl hld
          · have h1 := HB3.out.trans (SW.out.tch.below HB3.out.size (fun k e => by rcases e with e | e <;> omega))
            exact h1.trans ((setCells_tchF w.heap.size _ 0 wr).below h1.size (fun k e => by rw [e]; exact Nat.le_refl _))
end Go.Proofs.Ytcmnhgefeffcpaa
