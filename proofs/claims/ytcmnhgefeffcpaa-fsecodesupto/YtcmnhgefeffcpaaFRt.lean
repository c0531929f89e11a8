/-
  What was written is read again, and not as one symbol less.
-/
import Derived.Test.YtcmnhgefeffcpaaFEnc2
import Derived.Test.YtcmnhgefeffcpaaFDec2
namespace Go.Proofs.Ytcmnhgefeffcpaa
open Go.RowKit Pl
set_option linter.unusedVariables false

/-- The mark behind a row stands where the row ends. -/
theorem mark_of (bs : List Int) (h : Bits bs) : HasMark (pack (bs ++ [1])) ∧ markAt (pack (bs ++ [1])) = bs.length := by
  have hb : Bits (bs ++ [1]) := h.snoc (.inr rfl)
  have hl : (pack (bs ++ [1])).length = bs.length / 8 + 1 := by rw [pack_length]; simp; omega
  have h1 : (unpack (pack (bs ++ [1]))).getD bs.length 0 = 1 := by rw [unpack_pack hb, getD_snoc, if_pos rfl]; simp
  have h0 : ∀ p, bs.length < p → (unpack (pack (bs ++ [1]))).getD p 0 = 0 := by
    intro p hp
    rw [unpack_pack hb, getD_snoc, if_neg (by omega)]
    simp [List.getD_eq_getElem?_getD, List.getElem?_eq_none (show bs.length ≤ p by omega)]
  have hm : HasMark (pack (bs ++ [1])) := by
    refine ⟨by omega, fun e => ?_⟩
    rw [unpack_getD] at h1
    rw [hl, show bs.length / 8 + 1 - 1 = bs.length / 8 by omega] at e
    rw [e] at h1
    simp at h1
  obtain ⟨a, b, c⟩ := mark_lt (fun i => pack_bd hb i) hm
  refine ⟨hm, ?_⟩
  rcases Nat.lt_trichotomy (markAt (pack (bs ++ [1]))) bs.length with e | e | e
  · have := c bs.length e (by rw [hl]; omega)
    rw [h1] at this
    cases this
  · exact e
  · have := h0 _ e
    rw [b] at this
    cases this

/-- Symbols that have a share. -/
def GoodF (f : Nat → Nat) (L : Nat) (ds : List Int) : Prop := ∀ i, i < ds.length → 0 ≤ ds.getD i 0 ∧ (ds.getD i 0).toNat < L ∧ 1 ≤ f (ds.getD i 0).toNat

theorem en_prefix (f : Nat → Nat) (L z : Nat) (ds : List Int) : ∀ k, k ≤ ds.length → ∃ post, (en f L z ds).2 = (en f L z (ds.drop k)).2 ++ post
  | 0, _ => ⟨[], by simp⟩
  | k + 1, hk => by
    obtain ⟨post, h⟩ := en_prefix f L z ds k (by omega)
    have hd : ds.drop k = ds[k]'(by omega) :: ds.drop (k + 1) := List.drop_eq_getElem_cons (by omega)
    rw [hd] at h
    simp only [en] at h
    exact ⟨_, by rw [h, List.append_assoc]⟩

/-- One state back. -/
theorem step_back {f : Nat → Nat} {L lg : Nat} (h : Fok f L (2 ^ lg)) (hl : lg ≤ 9) {σ k : Nat} (h1 : 2 ^ lg ≤ σ) (h2 : σ < 2 * 2 ^ lg) (hk : k < L) (hf : 1 ≤ f k) :
    nxs f L (2 ^ lg) σ k - 2 ^ lg < 2 ^ lg ∧ tb f L (2 ^ lg) (nxs f L (2 ^ lg) σ k - 2 ^ lg) = k ∧ ah f L (2 ^ lg) k (nxs f L (2 ^ lg) σ k - 2 ^ lg) = σ / 2 ^ nb σ (f k) - f k ∧
      xs_ f L (2 ^ lg) (nxs f L (2 ^ lg) σ k - 2 ^ lg) = σ / 2 ^ nb σ (f k) ∧ bt lg (σ / 2 ^ nb σ (f k)) = nb σ (f k) ∧ 2 ^ lg ≤ σ / 2 ^ nb σ (f k) * 2 ^ nb σ (f k) := by
  have hz9 : 2 ^ lg ≤ 512 := by have : 2 ^ lg ≤ 2 ^ 9 := Nat.pow_le_pow_right (by decide) hl; omega
  have hσ : σ < 1024 := by omega
  have hfk : f k ≤ 2 ^ lg := by
    have h3 := cu_mono f (show k + 1 ≤ L from hk)
    have h4 := h.sum
    simp only [cu] at h3
    omega
  have hx := nb_x hf hσ h1 hfk
  have hs := nb_spec hf hσ
  obtain ⟨n, hn⟩ : ∃ n, nb σ (f k) = n := ⟨_, rfl⟩
  rw [hn] at hx hs ⊢
  obtain ⟨X, hX⟩ : ∃ X, σ / 2 ^ n = X := ⟨_, rfl⟩
  rw [hX] at hx ⊢
  obtain ⟨q, q1, q2, q3, q4⟩ := h.find hk (show X - f k < f k by omega)
  have e : nxs f L (2 ^ lg) σ k - 2 ^ lg = q := by unfold nxs; rw [hn, hX, q4]; omega
  rw [e]
  have hnl : n ≤ lg := by
    by_cases c : n ≤ lg
    · exact c
    · have h3 := hs.2.1 lg (by omega)
      have h4 : σ / 2 ^ lg < 2 := Nat.div_lt_of_lt_mul (by omega)
      omega
  have hge : 2 ^ lg ≤ X * 2 ^ n := by
    have e2 : 2 ^ lg = 2 ^ (lg - n) * 2 ^ n := by rw [← Nat.pow_add]; congr 1; omega
    have h3 : 2 ^ (lg - n) ≤ X := by
      rw [← hX, Nat.le_div_iff_mul_le (Nat.pow_pos (by decide)), ← e2]
      exact h1
    rw [e2]
    exact Nat.mul_le_mul_right _ h3
  have hle : X * 2 ^ n ≤ σ := by rw [← hX]; exact Nat.div_mul_le_self _ _
  have hxx : xs_ f L (2 ^ lg) q = X := by unfold xs_; rw [q2, q3]; omega
  refine ⟨q1, q2, q3, hxx, ?_, hge⟩
  have hX1 : 1 ≤ X := by omega
  have hX2 : X < 2 * 2 ^ lg := by have : X ≤ σ := by rw [← hX]; exact Nat.div_le_self _ _
                                  omega
  refine bt_eq hX1 hl hX2 hge (fun m hm => ?_)
  have h3 : 2 ^ m * 2 ≤ 2 ^ n := by rw [← Nat.pow_succ]; exact Nat.pow_le_pow_right (by decide) hm
  have h4 : X * (2 ^ m * 2) ≤ X * 2 ^ n := Nat.mul_le_mul_left _ h3
  rw [← Nat.mul_assoc] at h4
  omega

/-- Behind k symbols the reader stands where the writer stood ahead of them. -/
theorem dc_en {f : Nat → Nat} {L lg : Nat} (h : Fok f L (2 ^ lg)) (hl : lg ≤ 9) {ds B : List Int} (hg : GoodF f L ds) (hB : ∀ p n, p + n ≤ (en f L (2 ^ lg) ds).2.length → val B p n = val (en f L (2 ^ lg) ds).2 p n) :
    ∀ k, k ≤ ds.length → dc f L (2 ^ lg) lg B ((en f L (2 ^ lg) ds).1 - 2 ^ lg) (en f L (2 ^ lg) ds).2.length k = some (ds.take k, (en f L (2 ^ lg) (ds.drop k)).1 - 2 ^ lg, (en f L (2 ^ lg) (ds.drop k)).2.length)
  | 0, _ => by simp [dc]
  | k + 1, hk => by
    have ih := dc_en h hl hg hB k (by omega)
    simp only [dc, ih]
    obtain ⟨post, hpost⟩ := en_prefix f L (2 ^ lg) ds k (by omega)
    have hd : ds.drop k = ds[k]'(by omega) :: ds.drop (k + 1) := List.drop_eq_getElem_cons (by omega)
    obtain ⟨s, hs⟩ : ∃ s, ds[k]'(by omega) = s := ⟨_, rfl⟩
    obtain ⟨r, hr⟩ : ∃ r, ds.drop (k + 1) = r := ⟨_, rfl⟩
    rw [hs, hr] at hd
    rw [hd] at hpost ⊢
    rw [hr]
    have hgk := hg k (by omega)
    have es : ds.getD k 0 = s := by rw [List.getD_eq_getElem?_getD, List.getElem?_eq_getElem (by omega), hs]; rfl
    rw [es] at hgk
    have hr1 := en_range (z := 2 ^ lg) (Nat.pow_pos (by decide)) f L r
    obtain ⟨σ, hσ⟩ : ∃ σ, (en f L (2 ^ lg) r).1 = σ := ⟨_, rfl⟩
    obtain ⟨bs, hbs⟩ : ∃ bs, (en f L (2 ^ lg) r).2 = bs := ⟨_, rfl⟩
    have he1 : (en f L (2 ^ lg) (s :: r)).1 = nxs f L (2 ^ lg) σ s.toNat := by simp only [en]; rw [hσ]
    have he2 : (en f L (2 ^ lg) (s :: r)).2 = bs ++ bitsOf (σ : Int) (nb σ (f s.toNat)) := by simp only [en]; rw [hσ, hbs]
    rw [he2] at hpost
    rw [he1, he2, hσ, hbs]
    rw [hσ] at hr1
    obtain ⟨b1, b2, _, b4, b5, b6⟩ := step_back h hl hr1.1 hr1.2 hgk.2.1 hgk.2.2
    rw [b4, b5, b2]
    obtain ⟨n, hn⟩ : ∃ n, nb σ (f s.toNat) = n := ⟨_, rfl⟩
    rw [hn] at hpost b6 ⊢
    have hll : (bs ++ bitsOf (σ : Int) n).length = bs.length + n := by rw [List.length_append, bitsOf_length]
    rw [hll, if_neg (by omega), show bs.length + n - n = bs.length by omega]
    have hv : val B bs.length n = ((σ % 2 ^ n : Nat) : Int) := by
      rw [hB bs.length n (by rw [hpost]; simp [bitsOf_length]), hpost, ← bitsOf_mod]
      refine val_mid bs post _ n (by omega) ?_
      have e : ((2 : Int) ^ n) = ((2 ^ n : Nat) : Int) := by push_cast; rfl
      rw [e]
      exact_mod_cast Nat.mod_lt _ (Nat.pow_pos (by decide))
    rw [hv, Int.toNat_natCast]
    have hdm := Nat.div_add_mod σ (2 ^ n)
    rw [Nat.mul_comm] at hdm
    have e1 : σ / 2 ^ n * 2 ^ n - 2 ^ lg + σ % 2 ^ n = σ - 2 ^ lg := by omega
    have e2 : ds.take k ++ [((s.toNat : Nat) : Int)] = ds.take (k + 1) := by
      rw [List.take_succ_eq_append_getElem (by omega), hs]
      congr 2
      omega
    rw [e1, e2]

theorem val_row {bs : List Int} (hb : Bits bs) (p n : Nat) (h : p + n ≤ bs.length) : val (unpack (pack (bs ++ [1]))) p n = val bs p n := by
  rw [val_pack (hb.snoc (.inr rfl)), val_snoc, if_neg (by omega), Int.add_zero]

theorem row_bits (f : Nat → Nat) (L z lg : Nat) (ds : List Int) : Bits (eRow f L z lg ds) := Bits.append (en_bits f L z ds) (bits_bitsOf _ _)

/-- What is read of what was written, when k symbols are asked. -/
theorem dr_en {f : Nat → Nat} {L lg : Nat} (h : Fok f L (2 ^ lg)) (hl : lg ≤ 9) {ds : List Int} (hg : GoodF f L ds) (k : Nat) (hk : k ≤ ds.length) :
    dr f L (2 ^ lg) lg (unpack (pack (eRow f L (2 ^ lg) lg ds ++ [1]))) (eRow f L (2 ^ lg) lg ds).length k =
      if (en f L (2 ^ lg) (ds.drop k)).1 - 2 ^ lg = 0 then some (ds.take k, (en f L (2 ^ lg) (ds.drop k)).2.length) else none := by
  have hrow := row_bits f L (2 ^ lg) lg ds
  have hlen : (eRow f L (2 ^ lg) lg ds).length = (en f L (2 ^ lg) ds).2.length + lg := by unfold eRow; simp [bitsOf_length]
  have hrg := en_range (z := 2 ^ lg) (Nat.pow_pos (by decide)) f L ds
  unfold dr
  rw [if_neg (by omega), hlen, show (en f L (2 ^ lg) ds).2.length + lg - lg = (en f L (2 ^ lg) ds).2.length by omega]
  have hv : val (unpack (pack (eRow f L (2 ^ lg) lg ds ++ [1]))) (en f L (2 ^ lg) ds).2.length lg = (((en f L (2 ^ lg) ds).1 - 2 ^ lg : Nat) : Int) := by
    rw [val_row hrow _ _ (by omega)]
    unfold eRow
    have e : (((en f L (2 ^ lg) ds).1 : Nat) : Int) - ((2 ^ lg : Nat) : Int) = (((en f L (2 ^ lg) ds).1 - 2 ^ lg : Nat) : Int) := by omega
    rw [e]
    have := val_mid (en f L (2 ^ lg) ds).2 [] (((en f L (2 ^ lg) ds).1 - 2 ^ lg : Nat) : Int) lg (by omega) (by
      have e2 : ((2 : Int) ^ lg) = ((2 ^ lg : Nat) : Int) := by push_cast; rfl
      rw [e2]
      omega)
    simpa using this
  rw [hv, Int.toNat_natCast]
  have hB : ∀ p n, p + n ≤ (en f L (2 ^ lg) ds).2.length → val (unpack (pack (eRow f L (2 ^ lg) lg ds ++ [1]))) p n = val (en f L (2 ^ lg) ds).2 p n := fun p n hpn => by
    rw [val_row hrow _ _ (by omega)]
    unfold eRow val
    refine bv_congr _ _ n fun i hi => ?_
    rw [getD_append, if_pos (by omega)]
  rw [dc_en h hl hg hB k hk]

/-- Decode of Encode are the symbols. -/
theorem decR_en {s : List Int} {lg : Nat} (hs : Sok s lg) (hm : mayS s lg = true) {ds : List Int} (hl : ds.length ≤ 65536) (hg : GoodF (nn s) s.length ds) (k : Nat) (hk : k ≤ ds.length) :
    decR s lg (pack (eRow (nn s) s.length (2 ^ lg) lg ds ++ [1])) k = drE (if (en (nn s) s.length (2 ^ lg) (ds.drop k)).1 - 2 ^ lg = 0 then some (ds.take k, (en (nn s) s.length (2 ^ lg) (ds.drop k)).2.length) else none) := by
  obtain ⟨m1, m2⟩ := mark_of _ (row_bits (nn s) s.length (2 ^ lg) lg ds)
  unfold HasMark at m1
  unfold decR
  rw [if_neg (by rw [hm]; simp), if_neg (by omega), if_pos m1, m2]
  simp only [Int.toNat_natCast]
  rw [dr_en hs.fok hs.hi hg k hk]

theorem decR_whole {s : List Int} {lg : Nat} (hs : Sok s lg) (hm : mayS s lg = true) {ds : List Int} (hl : ds.length ≤ 65536) (hg : GoodF (nn s) s.length ds) :
    decR s lg (pack (eRow (nn s) s.length (2 ^ lg) lg ds ++ [1])) ds.length = (0, ds) := by
  rw [decR_en hs hm hl hg ds.length (Nat.le_refl _)]
  simp [en, drE]

/-- One symbol less is refused, unless there is but one symbol. -/
theorem decR_less {s : List Int} {lg : Nat} (hs : Sok s lg) (hm : mayS s lg = true) {ds : List Int} (hl : ds.length ≤ 65536) (hg : GoodF (nn s) s.length ds) (h0 : 0 < ds.length)
    (hlt : nn s (ds.getD (ds.length - 1) 0).toNat < 2 ^ lg) : (decR s lg (pack (eRow (nn s) s.length (2 ^ lg) lg ds ++ [1])) ((ds.length - 1 : Nat) : Int)).1 = 3 := by
  rw [decR_en hs hm hl hg (ds.length - 1) (by omega)]
  have hd : ds.drop (ds.length - 1) = [ds[ds.length - 1]'(by omega)] := by
    rw [List.drop_eq_getElem_cons (by omega), List.drop_eq_nil_of_le (by omega)]
  have es : ds.getD (ds.length - 1) 0 = ds[ds.length - 1]'(by omega) := by rw [List.getD_eq_getElem?_getD, List.getElem?_eq_getElem (by omega)]; rfl
  have hgk := hg (ds.length - 1) (by omega)
  rw [es] at hgk hlt
  obtain ⟨x, hx⟩ : ∃ x, ds[ds.length - 1]'(by omega) = x := ⟨_, rfl⟩
  rw [hx] at hd hgk hlt
  rw [hd]
  simp only [en, List.nil_append, bitsOf_length]
  have hp : 0 < 2 ^ lg := Nat.pow_pos (by decide)
  obtain ⟨_, b2, b3, _, _, _⟩ := step_back hs.fok hs.hi (Nat.le_refl (2 ^ lg)) (by omega) hgk.2.1 hgk.2.2
  by_cases c : nxs (nn s) s.length (2 ^ lg) (2 ^ lg) x.toNat - 2 ^ lg = 0
  · rw [if_pos c]
    rw [c] at b3
    simp only [ah] at b3
    have hz9 : 2 ^ lg ≤ 512 := by have : 2 ^ lg ≤ 2 ^ 9 := Nat.pow_le_pow_right (by decide) hs.hi; omega
    have hn : 0 < nb (2 ^ lg) (nn s x.toNat) := by
      by_cases e : 0 < nb (2 ^ lg) (nn s x.toNat)
      · exact e
      · have e0 : nb (2 ^ lg) (nn s x.toNat) = 0 := by omega
        rw [e0] at b3
        simp at b3
        omega
    simp only [drE]
    rw [if_pos hn]
  · rw [if_neg c]
    rfl

/-- What Encode answers. -/
theorem encode_anyF (sv dv : Value) (s ds : List Int) (log : Int) (w : World) (hr : Rd .i64 w sv s) (hd : Rd .i64 w dv ds) :
    Calls Try.prog 9 #[sv, .int .i64 log, dv] w fun e w' => EPostF (encR s log ds) w e w' := by
  by_cases hb : mayS s log = false ∨ 65536 < ds.length ∨ allS s ds = false
  · exact encode_bad sv dv s ds log w hr hd hb
  · have hm : mayS s log = true := by cases e : mayS s log with | true => rfl | false => exact absurd (.inl e) hb
    have ha : allS s ds = true := by cases e : allS s ds with | true => rfl | false => exact absurd (.inr (.inr e)) hb
    have hl : ds.length ≤ 65536 := by by_cases e : 65536 < ds.length; (· exact absurd (.inr (.inl e)) hb); (· omega)
    obtain ⟨lg, rfl, _⟩ := Sok.of hm
    have e : encR s lg ds = (0, pack (eRow (nn s) s.length (2 ^ lg) lg ds ++ [1])) := by
      unfold encR
      rw [if_neg (by rw [hm]; simp), if_neg (by rw [ha]; simp; omega)]
      rfl
    rw [e]
    exact encode_good sv dv s ds lg w hr hd hm hl ha
end Go.Proofs.Ytcmnhgefeffcpaa
