/- Layer 16 (chain), pure: frames in one area, the other's sectors forged; a sync, a loss of power, and all is there. -/
import Derived.Test.YtndkmfflpphoiaaZG16
set_option linter.unusedVariables false
set_option linter.unusedSimpArgs false
namespace Go.Proofs.Ytndkmfflpphoiaa.Disk
open Go Go.RowKit Kit
/-- What the sector j of the other half has. -/
def mk2 (u : UInt8) (j : Nat) : List UInt8 := [u, UInt8.ofNat j]
structure Fo1 (n O : Nat) (u : UInt8) (i : Nat) (D : Dk) : Prop where
  waits : D.waits = []
  off : D.off = false
  fuse : D.fuse = 0
  acts : D.acts = 0
  keep : D.keep = 0
  len : D.now.length = n
  there : ∀ j, j < i → D.now[O + j]? = some (full (mk2 u j))
  else_ : ∀ k, (k < O ∨ O + i ≤ k) → k < n → D.now[k]? = some (full [])
theorem fo1_new (n O : Nat) (u : UInt8) : Fo1 n O u 0 (new n) := by
  refine ⟨rfl, rfl, rfl, rfl, rfl, by simp [new], fun j hj => by omega, fun k _ hk => ?_⟩
  simp only [new]
  rw [List.getElem?_replicate, if_pos hk]
theorem Fo1.forge {n O : Nat} {u : UInt8} {i : Nat} {D : Dk} (h : Fo1 n O u i D) (hi : O + i < n) : Fo1 n O u (i + 1) (forge E8 D ((O + i : Nat) : Int) (mk2 u i)).1 := by
  have hl := h.len
  have e : (Disk.forge E8 D ((O + i : Nat) : Int) (mk2 u i)).1 = forged D (O + i) (mk2 u i) := by
    unfold Disk.forge
    rw [if_neg (by omega), if_neg (by simp [mk2])]
    rfl
  rw [e]
  refine ⟨by show D.waits.filter _ = []; rw [h.waits]; rfl, h.off, h.fuse, h.acts, h.keep, by show (D.now.set _ _).length = _; rw [List.length_set, hl], fun j hj => ?_, fun k hk hkn => ?_⟩
  · show (D.now.set (O + i) _)[O + j]? = _
    by_cases hji : j = i
    · subst hji; rw [List.getElem?_set_self (by omega)]
    · rw [List.getElem?_set_ne (by omega)]; exact h.there j (by omega)
  · show (D.now.set (O + i) _)[k]? = _
    rw [List.getElem?_set_ne (by omega)]
    exact h.else_ k (by omega) hkn
/-- Frames in an area; the other half's sectors are as they were. -/
structure Bk (n O h lo : Nat) (u : UInt8) (D : Dk) (A : Ar) (us : List (List UInt8)) (i : Nat) : Prop where
  ad : Adds n A lo D us
  oth : ∀ j, j < h → D.now[O + j]? = some (full (mk2 u j))
  ap : O + h ≤ lo ∨ A.top ≤ O
  wt : D.waits.length ≤ 64 * i
  ac : D.acts ≤ 64 * i
  kp : D.keep = 0
/-- Where the other half begins. -/
def othO (n : Nat) (odd : Bool) : Nat := if odd then 0 else n / 2
theorem bk_new {n : Nat} {odd : Bool} {u : UInt8} {D : Dk} (h : Fo1 n (othO n odd) u (n / 2) D) : Bk n (othO n odd) (n / 2) (aHalf n odd).pos u D (aHalf n odd) [] 0 := by
  have hok := aHalf_ok n odd
  have hap : othO n odd + n / 2 ≤ (aHalf n odd).pos ∨ (aHalf n odd).top ≤ othO n odd := by
    unfold othO aHalf
    cases odd
    · right; simp
    · left; simp
  refine ⟨⟨h.off, h.fuse, h.len, hok.2, hok.1, .nil _, fun i h1 h2 => h.else_ i (by omega) (by omega)⟩, fun j hj => h.there j hj, hap, by rw [h.waits]; simp, by rw [h.acts]; omega, h.keep⟩
theorem Bk.far {n O h lo : Nat} {u : UInt8} {D : Dk} {A : Ar} {us : List (List UInt8)} {i : Nat} (hb : Bk n O h lo u D A us i) (hi : i ≤ 1000) : Far D :=
  ⟨by have := hb.wt; omega, by have := hb.ac; omega, by rw [hb.ad.fuse]; omega, by rw [hb.kp]; omega⟩
theorem Bk.up {n O h lo : Nat} {u : UInt8} {D : Dk} {A : Ar} {us : List (List UInt8)} {i : Nat} (hb : Bk n O h lo u D A us i) : Bk n O h lo u D A us (i + 1) := ⟨hb.ad, hb.oth, hb.ap, by have := hb.wt; omega, by have := hb.ac; omega, hb.kp⟩
theorem Bk.add {n O h lo : Nat} {u : UInt8} {D : Dk} {A : Ar} {us : List (List UInt8)} {i : Nat} (hb : Bk n O h lo u D A us i) (s : List UInt8) (hs : flen s = s.length) (h0 : s.length ≠ 0) :
    ((aAdd D A s).2.2 = 0 ∧ Bk n O h lo u (aAdd D A s).1 (aAdd D A s).2.1 (us ++ [s]) (i + 1)) ∨ aAdd D A s = (D, A, 7) := by
  have hn := secs_len s
  have h48 := flen_48 s hs h0
  by_cases hr : A.pos + (secs s).length ≤ A.top
  · refine .inl ?_
    obtain ⟨d2, e2, h2, hac, hel⟩ := hb.ad.add s hs h0 hr
    have hfar := add_far D A s hs h0 hb.ad.off hb.ad.fuse hr (by have := hb.ad.top; have := hb.ad.size; omega)
    rw [e2] at hfar ⊢
    have hle := hb.ad.fr.le
    refine ⟨rfl, h2, fun j hj => ?_, hb.ap, ?_, ?_, ?_⟩
    · show d2.now[O + j]? = _
      rw [hel (O + j) (by rcases hb.ap with e | e; exact .inl (by omega); exact .inr (by omega))]
      exact hb.oth j hj
    · have h5 := hb.wt
      have h6 : d2.waits.length = D.waits.length + (secs s).length := hfar.1
      show d2.waits.length ≤ _
      omega
    · have := hb.ac; show d2.acts ≤ _; omega
    · show d2.keep = 0; rw [show d2.keep = D.keep from hfar.2, hb.kp]
  · exact .inr (add_full D A s hs h0 hb.ad.off (by omega) hb.ad.pos)
theorem next_end {n lo : Nat} {A : Ar} {D : Dk} {fs : List (List UInt8)} (h : Adds n A lo D fs) : aNext D A = (A, [], 0) := next_no D A h.off h.zero
theorem Fr.end_ {ls : List (List UInt8)} {p q : Nat} (h : Fr ls p [] q) : p = q := by cases h; rfl
end Go.Proofs.Ytndkmfflpphoiaa.Disk
