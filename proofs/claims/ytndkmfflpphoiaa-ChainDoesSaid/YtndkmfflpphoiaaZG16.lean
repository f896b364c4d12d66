/- Lemmas: ChaD ChaE. -/
import Derived.Test.YtndkmfflpphoiaaZG11
import Derived.Test.YtndkmfflpphoiaaZG12
set_option linter.unusedVariables false
set_option linter.unusedSimpArgs false
namespace Go.Proofs.Ytndkmfflpphoiaa.Disk
open Go Go.RowKit Kit
/-- Areas by their blocks. -/
def upA (t : Nat → Option Ar) (a : Nat) (A : Ar) : Nat → Option Ar := fun k => if k = a then some A else t k
def noA : Nat → Option Ar := fun _ => none
theorem upA_same (t : Nat → Option Ar) (a : Nat) (A : Ar) : upA t a A a = some A := by unfold upA; rw [if_pos rfl]
theorem upA_ne (t : Nat → Option Ar) (a b : Nat) (A : Ar) (h : b ≠ a) : upA t a A b = t b := by unfold upA; rw [if_neg h]
theorem upA_upA (t : Nat → Option Ar) (a : Nat) (A A2 : Ar) : upA (upA t a A) a A2 = upA t a A2 := by
  funext k
  unfold upA
  split <;> rfl
structure Gd (w wr : World) (g N S : Nat) (W : Option Addr) (cW : Nat) (D : Dk) (t : Nat → Option Ar) (B : Nat → Prop) : Prop where
  cd : Cd wr g N S W cW D
  kp : Kp nob w wr
  new : ∀ j, dF g N S W j → w.heap.size ≤ j
  ar : ∀ a A, t a = some A → IsA wr a g A ∧ w.heap.size ≤ a ∧ ¬ dF g N S W a
  be : ∀ j, B j → w.heap.size ≤ j ∧ j < wr.heap.size ∧ ¬ dF g N S W j ∧ t j = none
variable {w wr w2 : World} {g N S : Nat} {W : Option Addr} {cW : Nat} {D D2 : Dk} {t : Nat → Option Ar} {B F : Nat → Prop} {a : Nat} {A A2 : Ar}
theorem Gd.keep0 (h : Gd w wr g N S W cW D t B) (k : Kp nob wr w2) : Gd w w2 g N S W cW D t B :=
  ⟨h.cd.keep0 k, h.kp.trans k (fun _ e => e.elim), h.new, fun a A e => ⟨areaP.keep (h.ar a A e).1 k (fun e => e), (h.ar a A e).2⟩, fun j e => by
    obtain ⟨h1, h2, h3⟩ := h.be j e; exact ⟨h1, Nat.lt_of_lt_of_le h2 k.size, h3⟩⟩
theorem Gd.none_ (h : Gd w wr g N S W cW D t B) (j : Nat) (hj : wr.heap.size ≤ j) : t j = none := by
  cases e : t j with
  | none => rfl
  | some A => have := Blk.lt (h.ar j A e).1; omega
/-- Blocks made now stand beside, too. -/
theorem Gd.more (h : Gd w wr g N S W cW D t B) (k : Kp nob wr w2) : Gd w w2 g N S W cW D t (fun j => B j ∨ wr.heap.size ≤ j ∧ j < w2.heap.size) := by
  have h0 := h.keep0 k
  refine ⟨h0.cd, h0.kp, h0.new, h0.ar, fun j e => ?_⟩
  rcases e with e | ⟨e1, e2⟩
  · exact h0.be j e
  · exact ⟨Nat.le_trans h.kp.size e1, e2, fun e => by have := h.cd.lt j e; omega, h.none_ j e1⟩
theorem Gd.less (h : Gd w wr g N S W cW D t B) (hF : ∀ j, F j → B j) : Gd w wr g N S W cW D t F := ⟨h.cd, h.kp, h.new, h.ar, fun j e => h.be j (hF j e)⟩
/-- Blocks beside are turned. -/
theorem Gd.side (h : Gd w wr g N S W cW D t B) (k : Kp F wr w2) (hF : ∀ j, F j → B j ∨ wr.heap.size ≤ j) : Gd w w2 g N S W cW D t B := by
  have hn : ∀ j, j < wr.heap.size → ¬ B j → ¬ F j := fun j hj hb e => by
    rcases hF j e with e | e
    · exact hb e
    · omega
  refine ⟨h.cd.keep k (fun j e => hn j (h.cd.lt j e) (fun e2 => (h.be j e2).2.2.1 e)), h.kp.since k (fun j e => ?_), h.new, fun a A e => ?_, fun j e => ?_⟩
  · rcases hF j e with e | e
    · exact (h.be j e).1
    · exact Nat.le_trans h.kp.size e
  · obtain ⟨h1, h2, h3⟩ := h.ar a A e
    refine ⟨areaP.keep h1 k (hn a (Blk.lt h1) (fun e2 => ?_)), h2, h3⟩
    have := (h.be a e2).2.2.2
    rw [e] at this; cases this
  · obtain ⟨h1, h2, h3⟩ := h.be j e
    exact ⟨h1, Nat.lt_of_lt_of_le h2 k.size, h3⟩
/-- An act of the disk, or of an area: what its blocks become. -/
theorem Gd.act_ {t2 : Nat → Option Ar} {W2 : Option Addr} {c2 : Nat} (h : Gd w wr g N S W cW D t B) (hd : Cd w2 g N S W2 c2 D2) (k : Kp F wr w2) (hF : ∀ j, F j → dF g N S W j ∨ t j ≠ none) (hw : ∀ k, ab W2 = some k → ab W = some k ∨ wr.heap.size ≤ k)
    (ht : ∀ b C, t2 b = some C → IsA w2 b g C ∧ t b ≠ none) (ht2 : ∀ b, t b = none → t2 b = none) : Gd w w2 g N S W2 c2 D2 t2 B := by
  have hdf : ∀ j, dF g N S W2 j → dF g N S W j ∨ wr.heap.size ≤ j := Dz.df (w := wr) (w2 := w2) hw
  have hwr := h.kp.size
  refine ⟨hd, h.kp.since k (fun j e => ?_), fun j e => ?_, fun b C e => ?_, fun j e => ?_⟩
  · rcases hF j e with e | e
    · exact h.new j e
    · cases e2 : t j with
      | none => exact absurd e2 e
      | some X => exact (h.ar j X e2).2.1
  · rcases hdf j e with e | e
    · exact h.new j e
    · omega
  · obtain ⟨h1, h2⟩ := ht b C e
    cases e2 : t b with
    | none => exact absurd e2 h2
    | some X =>
      obtain ⟨h3, h4, h5⟩ := h.ar b X e2
      refine ⟨h1, h4, fun e3 => ?_⟩
      rcases hdf b e3 with e4 | e4
      · exact h5 e4
      · have := Blk.lt h3; omega
  · obtain ⟨h1, h2, h3, h4⟩ := h.be j e
    refine ⟨h1, Nat.lt_of_lt_of_le h2 k.size, fun e3 => ?_, ht2 j h4⟩
    rcases hdf j e3 with e4 | e4
    · exact h3 e4
    · omega
theorem Gd.disk (h : Gd w wr g N S W cW D t B) (hz : Dz wr g N S W D2 w2) : ∃ W2 c2, Gd w w2 g N S W2 c2 D2 t B ∧ Kp (dF g N S W) wr w2 := by
  obtain ⟨W2, c2, hd, k, hw⟩ := hz
  refine ⟨W2, c2, h.act_ hd k (fun j e => .inl e) hw (fun b C e => ⟨areaP.keep (h.ar b C e).1 k (h.ar b C e).2.2, (by rw [e]; exact fun e => by cases e)⟩) (fun b e => e), k⟩
theorem Gd.add (h : Gd w wr g N S W cW D t B) (ha : t a = some A) {s : List UInt8} (p : AddP areaP D g N S W a A s wr w2) : ∃ W2 c2, Gd w w2 g N S W2 c2 (aAdd D A s).1 (upA t a (aAdd D A s).2.1) B ∧ Kp (aF g N S W a) wr w2 := by
  obtain ⟨W2, c2, hd, k, hw, hi⟩ := p
  refine ⟨W2, c2, h.act_ hd k (fun j e => ?_) hw (fun b C e => ?_) (fun b e => ?_), k⟩
  · rcases e with e | e
    · exact .inl e
    · exact .inr (by rw [e, ha]; exact fun e => by cases e)
  · by_cases hb : b = a
    · subst hb
      rw [upA_same] at e; cases e
      exact ⟨hi, by rw [ha]; exact fun e => by cases e⟩
    · rw [upA_ne _ _ _ _ hb] at e
      refine ⟨areaP.keep (h.ar b C e).1 k (fun e2 => ?_), by rw [e]; exact fun e => by cases e⟩
      rcases e2 with e2 | e2
      · exact (h.ar b C e).2.2 e2
      · exact hb e2
  · rw [upA_ne _ _ _ _ (fun e2 => by rw [e2, ha] at e; cases e)]; exact e
/-- An area goes on. -/
theorem Gd.next (h : Gd w wr g N S W cW D t B) (ha : t a = some A) (k : Kp (oneB a) wr w2) (hi : IsA w2 a g A2) : Gd w w2 g N S W cW D (upA t a A2) B := by
  refine h.act_ (h.cd.keep k (fun j e e2 => ?_)) k (fun j e => ?_) (fun _ e => .inl e) (fun b C e => ?_) (fun b e => ?_)
  · unfold oneB at e2; subst e2; exact (h.ar j A ha).2.2 e
  · unfold oneB at e; exact .inr (by rw [e, ha]; exact fun e => by cases e)
  · by_cases hb : b = a
    · subst hb
      rw [upA_same] at e; cases e
      exact ⟨hi, by rw [ha]; exact fun e => by cases e⟩
    · rw [upA_ne _ _ _ _ hb] at e
      exact ⟨areaP.keep (h.ar b C e).1 k (fun e2 => hb e2), by rw [e]; exact fun e => by cases e⟩
  · rw [upA_ne _ _ _ _ (fun e2 => by rw [e2, ha] at e; cases e)]; exact e
/-- An area more. -/
theorem Gd.half (h : Gd w wr g N S W cW D t B) (k : Kp nob wr w2) (hi : IsA w2 a g A) (hn : wr.heap.size ≤ a) : Gd w w2 g N S W cW D (upA t a A) B := by
  have h0 := h.keep0 k
  refine ⟨h0.cd, h0.kp, h0.new, fun b C e => ?_, fun j e => ?_⟩
  · by_cases hb : b = a
    · subst hb
      rw [upA_same] at e; cases e
      exact ⟨hi, Nat.le_trans h.kp.size hn, fun e => by have := h.cd.lt b e; omega⟩
    · rw [upA_ne _ _ _ _ hb] at e; exact h0.ar b C e
  · obtain ⟨h1, h2, h3, h4⟩ := h.be j e
    refine ⟨h1, Nat.lt_of_lt_of_le h2 k.size, h3, ?_⟩
    rw [upA_ne _ _ _ _ (by omega)]; exact h4
theorem Gd.first {w1 : World} (hd : Cd w1 g N S W cW D) (k : Kp nob w w1) (hn : ∀ j, dF g N S W j → w.heap.size ≤ j) : Gd w w1 g N S W cW D noA nob :=
  ⟨hd, k, hn, (fun a A e => by cases e), (fun j e => e.elim)⟩
/-- A block beside is none of an area's, nor of the disk's. -/
theorem Gd.apart (h : Gd w wr g N S W cW D t B) (ha : t a = some A) {j : Nat} (hj : B j) : ¬ aF g N S W a j := fun e => by
  rcases e with e | e
  · exact (h.be j hj).2.2.1 e
  · have := (h.be j hj).2.2.2; rw [e, ha] at this; cases this
/-- A forged sector. -/
theorem forge_q (D : Dk) (i : Int) (b : List UInt8) (h : D.waits = []) (ho : D.off = false) : (forge E8 D i b).1.waits = [] ∧ (forge E8 D i b).1.off = false ∧ (forge E8 D i b).1.now.length = D.now.length ∧ (forge E8 D i b).1.fuse = D.fuse ∧ (forge E8 D i b).1.acts = D.acts ∧ (forge E8 D i b).1.keep = D.keep := by
  unfold forge
  split
  · exact ⟨h, ho, rfl, rfl, rfl, rfl⟩
  · split
    · exact ⟨h, ho, rfl, rfl, rfl, rfl⟩
    · exact ⟨by show D.waits.filter _ = []; rw [h]; rfl, ho, by show (D.now.set _ _).length = _; rw [List.length_set], rfl, rfl, rfl⟩
theorem slice_h256 (A : Option Addr) (n c v : Nat) (h : v ≤ c) (w : World) : (Instr.slice 36 (.slice A n c) none (some (.int .i64 (v : Int))) none).run Try.prog w = .ok (.slice (cutA A c 0) v c) w := by
  have he : Try.prog.elem 36 = 5 := by kernel_rfl
  rw [run_slice_h w 36 A n c (by kernel_rfl) .i64 v (by omega) (by omega), he, u8_szr]
  simp [Result.andThen, sliced, cutA]
def lsv (us : List (List UInt8)) : List Value := us.map fun s => .string (str s)
/-- A slice of strings of one's own, beside. -/
structure Lst (wr : World) (U : Option Addr) (m c : Nat) (us : List (List UInt8)) (B : Nat → Prop) : Prop where
  own : OwnK 1 9 wr U m c (lsv us)
  len : us.length = m
  be : ∀ j, ab U = some j → B j
theorem Lst.nil (wr : World) (B : Nat → Prop) : Lst wr none 0 0 [] B := ⟨OwnK.nil _ _ _, rfl, fun j e => by cases e⟩
theorem Lst.keep {wr w2 : World} {U : Option Addr} {m c : Nat} {us : List (List UInt8)} {B F : Nat → Prop} (h : Lst wr U m c us B) (k : Kp F wr w2) (hF : ∀ j, F j → ¬ B j) : Lst w2 U m c us B :=
  ⟨h.own.keep k (fun j e e2 => hF j e2 (h.be j e)), h.len, h.be⟩
theorem Lst.keep0 {wr w2 : World} {U : Option Addr} {m c : Nat} {us : List (List UInt8)} {B : Nat → Prop} (h : Lst wr U m c us B) (k : Kp nob wr w2) : Lst w2 U m c us B := h.keep k (fun _ e => e.elim)
theorem Lst.more {wr : World} {U : Option Addr} {m c : Nat} {us : List (List UInt8)} {B B2 : Nat → Prop} (h : Lst wr U m c us B) (hB : ∀ j, B j → B2 j) : Lst wr U m c us B2 := ⟨h.own, h.len, fun j e => hB j (h.be j e)⟩
theorem Lst.at_ {wr : World} {U : Option Addr} {m c : Nat} {us : List (List UInt8)} {B : Nat → Prop} (h : Lst wr U m c us B) {k : Nat} (hk : k < m) : ∃ b o s, U = some ⟨b, o, none⟩ ∧ wr.cell? ⟨b, o + k, none⟩ = some (.string (str s)) ∧ us.drop k = s :: us.drop (k + 1) := by
  have hl : k < us.length := by rw [h.len]; exact hk
  obtain ⟨b, o, e, _, hc⟩ := h.own.row.at_ (i := k) (by rw [lsv, List.length_map]; exact hl)
  refine ⟨b, o, us[k], e, ?_, List.drop_eq_getElem_cons hl⟩
  rw [hc]; simp [lsv]
theorem aAdd_top (D : Dk) (A : Ar) (s : List UInt8) : (aAdd D A s).2.1.top = A.top := by
  unfold aAdd
  split
  · rfl
  · split
    · rfl
    · split
      · rfl
      · split <;> rfl
theorem strI_ : (Try.prog.info? 9).map (fun i => (i.zero, i.size, i.bytes)) = some (some (.string ByteArray.empty), 1, 16) := by kernel_rfl
theorem strs_under : Try.prog.underlying 47 = some (.slice 9) := by kernel_rfl
theorem row_str {w : World} {A : Option Addr} {l : List (List UInt8)} (h : Row w A (l.map fun s => .string (str s))) {k : Nat} (hk : k < l.length) : ∃ b o s, A = some ⟨b, o, none⟩ ∧ w.cell? ⟨b, o + k, none⟩ = some (.string (str s)) ∧ s ∈ l := by
  obtain ⟨b, o, e, _, hc⟩ := h.at_ (i := k) (by rw [List.length_map]; exact hk)
  exact ⟨b, o, l[k], e, by rw [hc]; simp, List.getElem_mem hk⟩
/-- The blocks beside, and those made since wr. -/
def plusB (B : Nat → Prop) (lo hi : Nat) : Nat → Prop := fun j => B j ∨ lo ≤ j ∧ j < hi
section
variable {w wr w2 w5 w6 : World} {g N S : Nat} {W : Option Addr} {cW : Nat} {D D2 : Dk} {t : Nat → Option Ar} {B F : Nat → Prop} {a : Nat} {A A2 : Ar}
theorem Gd.grow (h : Gd w wr g N S W cW D t B) (k : Kp F wr w2) (hF : ∀ j, F j → B j ∨ wr.heap.size ≤ j) : Gd w w2 g N S W cW D t (plusB B wr.heap.size w2.heap.size) := by
  have h0 := h.side k hF
  refine ⟨h0.cd, h0.kp, h0.new, h0.ar, fun j e => ?_⟩
  rcases e with e | ⟨e1, e2⟩
  · exact h0.be j e
  · exact ⟨Nat.le_trans h.kp.size e1, e2, fun e => by have := h.cd.lt j e; omega, h.none_ j e1⟩
theorem Gd.app {U U2 : Option Addr} {m c c2 : Nat} {us : List (List UInt8)} {f : List UInt8} (hg : Gd w w5 g N S W cW D t B) (hu : Lst w5 U m c us B) (hU : OwnK 1 9 w6 U2 (m + 1) c2 (lsv us ++ [.string (str f)])) (hgr : w5.grownBy w6 (ab U)) (hab : ab U2 = ab U ∨ ab U2 = some w5.heap.size) :
    Gd w w6 g N S W cW D t (plusB B w5.heap.size w6.heap.size) ∧ Lst w6 U2 (m + 1) c2 (us ++ [f]) (plusB B w5.heap.size w6.heap.size) ∧
    ∀ V mv cv vs, Lst w5 V mv cv vs B → (∀ j, ab U = some j → ab V ≠ some j) → Lst w6 V mv cv vs (plusB B w5.heap.size w6.heap.size) ∧ (∀ j, ab U2 = some j → ab V ≠ some j) := by
  have k : Kp (rowF U) w5 w6 := Kp.of_grown hgr (fun j e => e)
  have hU2 := hU.lt
  refine ⟨hg.grow k (fun j e => .inl (hu.be j e)), ⟨by rw [lsv, List.map_append]; exact hU, by rw [List.length_append, hu.len]; rfl, fun j e => ?_⟩, fun V mv cv vs hv hd => ⟨⟨hv.own.keep k (fun j e e2 => hd j e2 e), hv.len, fun j e => .inl (hv.be j e)⟩, fun j e => ?_⟩⟩
  · rcases hab with h | h
    · exact .inl (hu.be j (by rw [← h]; exact e))
    · have := hU2 j e
      rw [h] at e; cases e
      exact .inr ⟨Nat.le_refl _, this⟩
  · rcases hab with h | h
    · exact hd j (by rw [← h]; exact e)
    · rw [h] at e; cases e
      intro e2
      have := hv.own.lt _ e2
      omega
end
/-- What an Add of a frame that has room leaves. -/
theorem add_far (D : Dk) (A : Ar) (s : List UInt8) (hs : flen s = s.length) (h0 : s.length ≠ 0) (ho : D.off = false) (hf : D.fuse = 0) (hr : A.pos + (secs s).length ≤ A.top) (ht : A.top ≤ D.now.length) :
    (aAdd D A s).1.waits.length = D.waits.length + (secs s).length ∧ (aAdd D A s).1.keep = D.keep := by
  have hn := secs_len s
  have h1 := adds_far s.length s D A.pos rfl ho hf (by omega)
  obtain ⟨d3, e4, _⟩ := adds_yes s.length s D A.pos rfl ho hf (by omega)
  have e : (aAdd D A s).1 = (aAdds D A.pos s).1 := by
    unfold aAdd
    rw [if_neg (by simp [hs]; intro h; exact h0 (by rw [h]; rfl)), if_neg (by simp [ho]), if_neg (by omega), e4]
    simp
  rw [e]; exact h1
theorem Adds.other {n lo : Nat} {a : Ar} {d d2 : Dk} {fs : List (List UInt8)} (h : Adds n a lo d fs) (ho : d2.off = false) (hf : d2.fuse = 0) (hs : d2.now.length = n) (hi : ∀ i, lo ≤ i → i < a.top → d2.now[i]? = d.now[i]?) : Adds n a lo d2 fs := by
  have hle := h.fr.le
  have hp := h.pos
  exact ⟨ho, hf, hs, h.top, h.pos, h.fr.ext (fun i h1 h2 => hi i h1 (by omega)), fun i h1 h2 => by rw [hi i (by omega) h2]; exact h.zero i h1 h2⟩
/-- Frames in both areas; so many were added. -/
structure Two (n lox loy : Nat) (D : Dk) (X Y : Ar) (us vs : List (List UInt8)) (i : Nat) : Prop where
  x : Adds n X lox D us
  y : Adds n Y loy D vs
  ap : X.top ≤ loy ∨ Y.top ≤ lox
  wt : D.waits.length ≤ 64 * i
  ac : D.acts ≤ 64 * i
  kp : D.keep = 0
theorem Two.swap {n lox loy : Nat} {D : Dk} {X Y : Ar} {us vs : List (List UInt8)} {i : Nat} (h : Two n lox loy D X Y us vs i) : Two n loy lox D Y X vs us i := ⟨h.y, h.x, h.ap.symm, h.wt, h.ac, h.kp⟩
theorem Two.far {n lox loy : Nat} {D : Dk} {X Y : Ar} {us vs : List (List UInt8)} {i : Nat} (h : Two n lox loy D X Y us vs i) (hi : i ≤ 1000) : Far D :=
  ⟨by have := h.wt; omega, by have := h.ac; omega, by rw [h.x.fuse]; omega, by rw [h.kp]; omega⟩
theorem Two.up {n lox loy : Nat} {D : Dk} {X Y : Ar} {us vs : List (List UInt8)} {i : Nat} (h : Two n lox loy D X Y us vs i) : Two n lox loy D X Y us vs (i + 1) := ⟨h.x, h.y, h.ap, by have := h.wt; omega, by have := h.ac; omega, h.kp⟩
/-- A frame is added to the first, or there is no room. -/
theorem Two.add {n lox loy : Nat} {D : Dk} {X Y : Ar} {us vs : List (List UInt8)} {i : Nat} (h : Two n lox loy D X Y us vs i) (s : List UInt8) (hs : flen s = s.length) (h0 : s.length ≠ 0) :
    ((aAdd D X s).2.2 = 0 ∧ Two n lox loy (aAdd D X s).1 (aAdd D X s).2.1 Y (us ++ [s]) vs (i + 1)) ∨ aAdd D X s = (D, X, 7) := by
  have hn := secs_len s
  have h48 := flen_48 s hs h0
  by_cases hr : X.pos + (secs s).length ≤ X.top
  · refine .inl ?_
    obtain ⟨d2, e2, h2, hac, hel⟩ := h.x.add s hs h0 hr
    have hfar := add_far D X s hs h0 h.x.off h.x.fuse hr (by have := h.x.top; have := h.x.size; omega)
    rw [e2] at hfar ⊢
    refine ⟨rfl, h2, h.y.other h2.off h2.fuse h2.size (fun j h3 h4 => hel j ?_), h.ap, ?_, ?_, ?_⟩
    · have hle := h.x.fr.le
      have hp := h.x.pos
      rcases h.ap with e | e
      · exact .inr (by omega)
      · exact .inl (by omega)
    · have h5 := h.wt
      have h6 : d2.waits.length = D.waits.length + (secs s).length := hfar.1
      show d2.waits.length ≤ _
      omega
    · have := h.ac; show d2.acts ≤ _; omega
    · show d2.keep = 0; rw [show d2.keep = D.keep from hfar.2, h.kp]
  · exact .inr (add_full D X s hs h0 h.x.off (by omega) h.x.pos)
theorem two_new (n : Nat) : Two n 0 (n / 2) (new n) (aHalf n false) (aHalf n true) [] [] 0 :=
  ⟨adds_new n false, adds_new n true, .inl (Nat.le_refl _), by simp [new], by simp [new], rfl⟩
end Go.Proofs.Ytndkmfflpphoiaa.Disk
