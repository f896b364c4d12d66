/- Texts sealed and opened in an ideal world, on lists: what is opened is what was sealed so; what two worlds tell of texts. No program is named here. -/
import Derived.Test.YtakhanganifpnaaIdealS
namespace Go.Proofs.Ytakhanganifpnaa.Ideal
set_option linter.unusedVariables false
set_option linter.unusedSimpArgs false
open Go Go.RowKit Kit

/-- The thing of a text sealed. -/
def sealT (key nonce aad text : List UInt8) : Thing := ⟨83, key, nonce, aad, text⟩
/-- Was it sealed so? .. and what is opened. -/
def fits (ts : List Thing) (key nonce aad b : List UInt8) (t : Thing) : Bool := t.kind == 83 && (t.a == key && (t.b == nonce && (t.c == aad && out ts t (t.d.length + 16) == b)))
def opn (ts : List Thing) (key nonce aad b : List UInt8) : Option (List UInt8) := (ts.find? (fits ts key nonce aad b)).map (·.d)
theorem opn_none (ts : List Thing) (key nonce aad b : List UInt8) (h : ∀ j t, j < ts.length → ts[j]? = some t → fits ts key nonce aad b t = false) : opn ts key nonce aad b = none := by
  rw [opn, List.find?_eq_none.2]
  · rfl
  · intro x hx
    obtain ⟨j, hj, e⟩ := List.mem_iff_getElem.1 hx
    rw [h j x hj (by rw [List.getElem?_eq_getElem hj, e])]
    simp
theorem opn_some (ts : List Thing) (key nonce aad b : List UInt8) (i : Nat) (x : Thing) (hx : ts[i]? = some x) (hf : fits ts key nonce aad b x = true) (h : ∀ j t, j < i → ts[j]? = some t → fits ts key nonce aad b t = false) : opn ts key nonce aad b = some x.d := by
  have hi := (List.getElem?_eq_some_iff.1 hx).1
  have e := (List.getElem?_eq_some_iff.1 hx).2
  rw [opn, List.find?_eq_some_iff_getElem.2 ⟨hf, i, hi, e, fun j hj => ?_⟩]
  · rfl
  · rw [h j _ hj (List.getElem?_eq_getElem (by omega))]; rfl
theorem mem_of_at {ts : List Thing} {i : Nat} {x : Thing} (h : ts[i]? = some x) : x ∈ ts := List.mem_of_getElem? h


theorem fits_iff (ts : List Thing) (key nonce aad b : List UInt8) (t : Thing) : fits ts key nonce aad b t = true ↔ t = sealT key nonce aad t.d ∧ out ts t (t.d.length + 16) = b := by
  obtain ⟨k, x, y, z, d⟩ := t
  simp only [fits, sealT, Bool.and_eq_true, beq_iff_eq, Thing.mk.injEq, and_true]
  constructor
  · rintro ⟨rfl, rfl, rfl, rfl, h⟩; exact ⟨⟨rfl, rfl, rfl, rfl⟩, h⟩
  · rintro ⟨⟨rfl, rfl, rfl, rfl⟩, h⟩; exact ⟨rfl, rfl, rfl, rfl, h⟩
theorem out_old (ts : List Thing) (t : Thing) (n : Nat) (h : t ∈ ts) : out ts t n = tok t.kind (num ts t) n := by rw [out, mk_old ts t h]
/-- WHAT IS OPENED is just what was sealed so. -/
theorem opn_iff (ts : List Thing) (key nonce aad b d : List UInt8) (hw : ts.length < 1000000) : opn ts key nonce aad b = some d ↔ sealT key nonce aad d ∈ ts ∧ out ts (sealT key nonce aad d) (d.length + 16) = b := by
  have key1 : ∀ t, ts.find? (fits ts key nonce aad b) = some t → t ∈ ts ∧ t = sealT key nonce aad t.d ∧ out ts t (t.d.length + 16) = b := fun t h => ⟨List.mem_of_find?_eq_some h, (fits_iff ts key nonce aad b t).1 (List.find?_some h)⟩
  constructor
  · intro h
    simp only [opn, Option.map_eq_some_iff] at h
    obtain ⟨t, ht, rfl⟩ := h
    obtain ⟨h1, h2, h3⟩ := key1 t ht
    rw [← h2]; exact ⟨h1, h3⟩
  · rintro ⟨h1, h2⟩
    cases hq : ts.find? (fits ts key nonce aad b) with
    | none => exact absurd ((fits_iff ts key nonce aad b _).2 ⟨rfl, h2⟩) (by simpa using List.find?_eq_none.1 hq _ h1)
    | some t =>
      obtain ⟨h3, h4, h5⟩ := key1 t hq
      rw [out_old _ _ _ h3] at h5
      rw [out_old _ _ _ h1] at h2
      have l1 := num_le ts t; have l2 := num_le ts (sealT key nonce aad d)
      have := (tok_inj (by omega) (by omega) (h5.trans h2.symm)).2
      have e := num_inj ts this h3
      rw [opn, hq, e]; rfl
theorem opn_no (ts : List Thing) (key nonce aad b : List UInt8) (hw : ts.length < 1000000) (h : ∀ d, sealT key nonce aad d ∈ ts → out ts (sealT key nonce aad d) (d.length + 16) ≠ b) : opn ts key nonce aad b = none := by
  cases hq : opn ts key nonce aad b with
  | none => rfl
  | some d => have := (opn_iff ts key nonce aad b d hw).1 hq; exact absurd this.2 (h d this.1)
/-- What was just sealed is opened. -/
theorem opn_sealed (ts : List Thing) (key nonce aad d : List UInt8) (hw : ts.length < 900000) : opn (mk ts (sealT key nonce aad d)) key nonce aad (out ts (sealT key nonce aad d) (d.length + 16)) = some d := by
  have hl := mk_length_le ts (sealT key nonce aad d)
  refine (opn_iff _ _ _ _ _ _ (by omega)).2 ⟨mk_mem _ _, ?_⟩
  rw [out_old _ _ _ (mk_mem _ _), out]
theorem out_length (ts : List Thing) (t : Thing) (n : Nat) (h : 9 ≤ n) : (out ts t n).length = n := tok_length _ _ _ h
/-- Two worlds in which the same was sealed, but for texts of the same lengths, the nonce i in the i-th. -/
structure Like (nonce : Nat → List UInt8) (vs ws : List Thing) : Prop where
  of ::
  len : vs.length = ws.length
  v : ∀ i t, vs[i]? = some t → t.b = nonce i
  w : ∀ i t, ws[i]? = some t → t.b = nonce i
theorem like_nil (nonce : Nat → List UInt8) : Like nonce [] [] := ⟨rfl, fun i t h => by simp at h, fun i t h => by simp at h⟩
theorem Like.new {nonce : Nat → List UInt8} {vs ws : List Thing} (h : Like nonce vs ws) (hn : ∀ i j, i < j → j ≤ vs.length → nonce i ≠ nonce j) (key aad d : List UInt8) : sealT key (nonce vs.length) aad d ∉ vs ∧ sealT key (nonce vs.length) aad d ∉ ws := by
  constructor
  · intro hm
    obtain ⟨i, hi, e⟩ := List.mem_iff_getElem.1 hm
    have := h.v i _ (by rw [List.getElem?_eq_getElem hi, e])
    exact hn i vs.length hi (Nat.le_refl _) this.symm
  · intro hm
    obtain ⟨i, hi, e⟩ := List.mem_iff_getElem.1 hm
    have := h.w i _ (by rw [List.getElem?_eq_getElem hi, e])
    exact hn i vs.length (by rw [h.len]; exact hi) (Nat.le_refl _) this.symm
/-- NOTHING IS TOLD OF A TEXT BUT ITS LENGTH. -/
theorem Like.step {nonce : Nat → List UInt8} {vs ws : List Thing} (h : Like nonce vs ws) (hn : ∀ i j, i < j → j ≤ vs.length → nonce i ≠ nonce j) (key aad d e : List UInt8) (hl : d.length = e.length) :
    out vs (sealT key (nonce vs.length) aad d) (d.length + 16) = out ws (sealT key (nonce vs.length) aad e) (e.length + 16) ∧ Like nonce (mk vs (sealT key (nonce vs.length) aad d)) (mk ws (sealT key (nonce vs.length) aad e)) ∧ (mk vs (sealT key (nonce vs.length) aad d)).length = vs.length + 1 := by
  have h1 := (h.new hn key aad d).1
  have h2 := (h.new hn key aad e).2
  rw [out_new _ _ _ h1, out_new _ _ _ h2, mk_new _ _ h1, mk_new _ _ h2, hl, h.len]
  have hlen := h.len
  refine ⟨rfl, ⟨by simp [h.len], fun i t ht => ?_, fun i t ht => ?_⟩, by simp [h.len]⟩
  · rw [List.getElem?_append] at ht
    split at ht
    · exact h.v i t ht
    · rename_i hi
      have : i - vs.length = 0 := by
        rcases Nat.eq_zero_or_pos (i - vs.length) with h0 | h0
        · exact h0
        · rw [List.getElem?_eq_none (by simp; omega)] at ht; cases ht
      rw [this] at ht
      have ht := (Option.some.inj (by simpa using ht : some (sealT key (nonce ws.length) aad d) = some t)).symm
      rw [ht, show i = ws.length by omega]; rfl
  · rw [List.getElem?_append] at ht
    split at ht
    · exact h.w i t ht
    · rename_i hi
      have : i - ws.length = 0 := by
        rcases Nat.eq_zero_or_pos (i - ws.length) with h0 | h0
        · exact h0
        · rw [List.getElem?_eq_none (by simp; omega)] at ht; cases ht
      rw [this] at ht
      have ht := (Option.some.inj (by simpa using ht : some (sealT key (nonce ws.length) aad e) = some t)).symm
      rw [ht, show i = ws.length by omega]; rfl
/-- A byte turned: nothing was sealed so. -/
theorem opn_turned (key nonce aad d : List UInt8) (i : Nat) (x : UInt8) (hx : x ≠ 0) (b : List UInt8) (hb : b = out [] (sealT key nonce aad d) (d.length + 16)) (hi : i < b.length) : opn (mk [] (sealT key nonce aad d)) key nonce aad (b.set i (b[i] ^^^ x)) = none := by
  have hm : mk [] (sealT key nonce aad d) = [sealT key nonce aad d] := by rw [mk_new _ _ (by simp)]; rfl
  rw [hm]
  refine opn_no _ _ _ _ _ (by simp) fun e he => ?_
  have he := List.mem_singleton.1 he
  rw [he]
  have ed : e = d := by have := congrArg Thing.d he; exact this
  rw [ed, out_old _ _ _ (by simp)]
  have h0 : out [] (sealT key nonce aad d) (d.length + 16) = tok (sealT key nonce aad d).kind (num [sealT key nonce aad d] (sealT key nonce aad d)) (d.length + 16) := by rw [out, hm]
  rw [← h0, ← hb]
  intro h
  have := congrArg (fun l => l[i]?) h
  simp only [List.getElem?_set, hi, if_true, List.getElem?_eq_getElem] at this
  have h3 : b[i] = b[i] ^^^ x := by simpa using this
  apply hx
  have h4 := congrArg (fun y => b[i] ^^^ y) h3
  simp only [← UInt8.xor_assoc, UInt8.xor_self, UInt8.zero_xor] at h4
  exact h4.symm
/-- Another key, another nonce, more that is known. -/
theorem opn_other (key nonce aad d k2 n2 a2 b : List UInt8) (h : ¬ (k2 = key ∧ n2 = nonce ∧ a2 = aad)) : opn (mk [] (sealT key nonce aad d)) k2 n2 a2 b = none := by
  have hm : mk [] (sealT key nonce aad d) = [sealT key nonce aad d] := by rw [mk_new _ _ (by simp)]; rfl
  rw [hm]
  refine opn_no _ _ _ _ _ (by simp) fun e he => ?_
  have he := List.mem_singleton.1 he
  simp only [sealT, Thing.mk.injEq] at he
  exact absurd ⟨he.2.1, he.2.2.1, he.2.2.2.1⟩ h
end Go.Proofs.Ytakhanganifpnaa.Ideal
