/- Contracts of the reader of package code. -/
import Derived.Test.YtenihiphcbheeaaCodeW
namespace Go.Proofs.Ytenihiphcbheeaa
open Go Go.RowKit Kit

set_option maxHeartbeats 400000 in
theorem wNil_Num (B : Value) (w : World) : Calls Try.prog 12 #[.pointer none, B] w fun e w' => e = .returned (.tuple #[]) ∧ w = w' := by
  go_enter Try.func12, Try.ntmps12
  go_wp2
  refine bodyPost_ret (results_none rfl _ _ _) rfl ?_
  exact ⟨rfl, rfl⟩
set_option maxHeartbeats 400000 in
theorem wNil_Text (B : Value) (w : World) : Calls Try.prog 13 #[.pointer none, B] w fun e w' => e = .returned (.tuple #[]) ∧ w = w' := by
  go_enter Try.func13, Try.ntmps13
  go_wp2
  refine bodyPost_ret (results_none rfl _ _ _) rfl ?_
  exact ⟨rfl, rfl⟩
set_option maxHeartbeats 400000 in
theorem wNil_Byte (B : Value) (w : World) : Calls Try.prog 14 #[.pointer none, B] w fun e w' => e = .returned (.tuple #[]) ∧ w = w' := by
  go_enter Try.func14, Try.ntmps14
  go_wp2
  refine bodyPost_ret (results_none rfl _ _ _) rfl ?_
  exact ⟨rfl, rfl⟩
set_option maxHeartbeats 400000 in
theorem wNil_Bytes (w : World) : Calls Try.prog 15 #[.pointer none] w fun e w' => e = .returned (.slice none 0 0) ∧ w = w' := by
  go_enter Try.func15, Try.ntmps15
  go_wp2
  go_ret
  exact ⟨rfl, rfl⟩

/-- bytes.Clone of any bytes: new memory. -/
def Fresh (B : Nat) (A : Option Addr) : Prop := ∀ k, ab A = some k → B ≤ k
def NewBytes (w : World) (l : List UInt8) (e : Ending) (w' : World) : Prop :=
  ∃ A' c', e = .returned (.slice A' l.length c') ∧ Own 5 w' A' l.length c' (bvs l) ∧ Kp nob w w' ∧ Fresh w.heap.size A' ∧ (A' = none → c' = 0)
theorem own_none {e : TypeId} {w : World} {A : Option Addr} {n c : Nat} {xs : List Value} (h : Own e w A n c xs) : A = none → c = 0 := by
  rintro rfl
  rcases h.2 with ⟨h1, _⟩ | ⟨g, cap, cur, h1, _⟩
  · injection h1
  · injection h1 with h1; cases h1
theorem clone_any (A : Option Addr) (n c : Nat) (l : List UInt8) (w : World) (hn : l.length = n) (hl : n ≤ 1099511627776) (hA : A = none → c = 0) (hr : Row w A (bvs l)) :
    Calls Try.prog 33 #[.slice A n c] w (NewBytes w l) := by
  subst hn
  cases A with
  | none =>
    obtain rfl := hA rfl
    have hl : l = [] := by
      rcases hr with h | ⟨b, o, h, _⟩
      · simpa [bvs] using h
      · cases h
    subst hl
    refine (clone_nil w).mono ?_
    rintro e w' ⟨rfl, rfl⟩
    exact ⟨none, 0, rfl, Own.nil _ _, Kp.refl _ _, (fun k h => by cases h), fun _ => rfl⟩
  | some a =>
    refine (clone_some a l.length c l w rfl hl hr).mono ?_
    rintro e w' ⟨A', c', rfl, ho, hk, hf⟩
    exact ⟨A', c', rfl, ho, hk, hf, own_none ho⟩

set_option maxHeartbeats 400000 in
theorem wBytes (b : Nat) (A : Option Addr) (l : List UInt8) (w : World) (h : IsW w b A l) (hl : l.length ≤ 1099511627776) :
    Calls Try.prog 15 #[.pointer (some ⟨b, 0, none⟩)] w (NewBytes w l) := by
  obtain ⟨c, h1, h2, h3⟩ := h
  have hc : w.cell? ⟨b, 0, none⟩ = some (.slice A l.length c) := by rw [cell_of_heap h1]; rfl
  clear h1
  go_enter Try.func15, Try.ntmps15
  go_wp2_with fail
  refine (clone_any A l.length c l _ rfl hl (own_none h2) h2.row).mono ?_
  rintro e w' ⟨A', c', rfl, ho, hk, hf, hn⟩
  go_wp2
  go_ret
  exact ⟨A', c', rfl, ho, hk, hf, hn⟩

/-- A reader at block b: what is left, and whether there was a fault. -/
def IsR (w : World) (b : Nat) (A : Option Addr) (l : List UInt8) (bad : Bool) : Prop :=
  ∃ c, w.heap[b]? = some (.cells #[.slice A l.length c, .bool bad] 59 (0, 0)) ∧ Row w A (bvs l) ∧ ab A ≠ some b ∧ l.length ≤ c ∧ c ≤ maxLen ∧ (A = none → c = 0)
theorem IsR.lt {w : World} {b : Nat} {A : Option Addr} {l : List UInt8} {bad : Bool} (h : IsR w b A l bad) : b < w.heap.size := by
  obtain ⟨c, h, _⟩ := h
  rcases Nat.lt_or_ge b w.heap.size with hlt | hge
  · exact hlt
  · rw [Array.getElem?_eq_none hge] at h; cases h
theorem IsR.keep {F : Nat → Prop} {w w' : World} {b : Nat} {A : Option Addr} {l : List UInt8} {bad : Bool} (h : IsR w b A l bad) (hk : Kp F w w') (hf : ∀ k, WF b A k → ¬ F k) : IsR w' b A l bad := by
  have hb := h.lt
  obtain ⟨c, h1, h2, h3⟩ := h
  exact ⟨c, by rw [hk.block b hb (hf b (.inl rfl))]; exact h1, h2.keep hk (fun k e => hf k (.inr e)), h3⟩
theorem IsR.cells {w : World} {b : Nat} {A : Option Addr} {l : List UInt8} {bad : Bool} (h : IsR w b A l bad) :
    ∃ c, w.cell? ⟨b, 0, none⟩ = some (.slice A l.length c) ∧ w.cell? ⟨b, 1, none⟩ = some (.bool bad) ∧ w.frozen? ⟨b, 0, none⟩ = false ∧ w.frozen? ⟨b, 1, none⟩ = false ∧ Row w A (bvs l) ∧ ab A ≠ some b ∧ l.length ≤ c ∧ c ≤ maxLen ∧ (A = none → c = 0) := by
  obtain ⟨c, h1, h2⟩ := h
  exact ⟨c, by rw [cell_of_heap h1]; rfl, by rw [cell_of_heap h1]; rfl, frozen_of_heap h1 0, frozen_of_heap h1 1, h2⟩

set_option maxHeartbeats 400000 in
theorem rGood (b : Nat) (A : Option Addr) (l : List UInt8) (bad : Bool) (w : World) (h : IsR w b A l bad) :
    Calls Try.prog 25 #[.pointer (some ⟨b, 0, none⟩)] w fun e w' => e = .returned (.bool (!bad)) ∧ w = w' := by
  obtain ⟨c, h1, h2, h3, h4, h5⟩ := h.cells
  clear h5
  go_enter Try.func25, Try.ntmps25
  go_wp2
  go_ret
  exact ⟨rfl, rfl⟩
set_option maxHeartbeats 400000 in
theorem rGood_nil (w : World) : Calls Try.prog 25 #[.pointer none] w fun e w' => e = .returned (.bool false) ∧ w = w' := by
  go_enter Try.func25, Try.ntmps25
  go_wp2
  go_ret
  exact ⟨rfl, rfl⟩
set_option maxHeartbeats 400000 in
theorem rLeft (b : Nat) (A : Option Addr) (l : List UInt8) (bad : Bool) (w : World) (h : IsR w b A l bad) :
    Calls Try.prog 29 #[.pointer (some ⟨b, 0, none⟩)] w fun e w' => e = .returned (.int .i64 l.length) ∧ w = w' := by
  obtain ⟨c, h1, h2, h3, h4, h5⟩ := h.cells
  clear h5
  go_enter Try.func29, Try.ntmps29
  go_wp2
  go_ret
  exact ⟨rfl, rfl⟩
set_option maxHeartbeats 400000 in
theorem rLeft_nil (w : World) : Calls Try.prog 29 #[.pointer none] w fun e w' => e = .returned (.int .i64 0) ∧ w = w' := by
  go_enter Try.func29, Try.ntmps29
  go_wp2
  go_ret
  exact ⟨rfl, rfl⟩
set_option maxHeartbeats 400000 in
theorem rFail_nil (w : World) : Calls Try.prog 36 #[.pointer none] w fun e w' => e = .returned (.tuple #[]) ∧ w = w' := by
  go_enter Try.func36, Try.ntmps36
  go_wp2
  refine bodyPost_ret (results_none rfl _ _ _) rfl ?_
  exact ⟨rfl, rfl⟩
def oneF (b : Nat) : Nat → Prop := fun k => k = b
set_option maxHeartbeats 400000 in
theorem rFail (b : Nat) (A : Option Addr) (l : List UInt8) (bad : Bool) (w : World) (h : IsR w b A l bad) :
    Calls Try.prog 36 #[.pointer (some ⟨b, 0, none⟩)] w fun e w' => e = .returned (.tuple #[]) ∧ IsR w' b none [] true ∧ Kp (oneF b) w w' := by
  have hh := h
  obtain ⟨c, h1, h2, h3, h4, h5⟩ := h.cells
  clear h5
  go_enter Try.func36, Try.ntmps36
  go_wp2
  go_end0
  refine ⟨rfl, ?_, ((Kp.refl (oneF b) w).setCell (p := ⟨b, 0, none⟩) (.inl rfl) _).setCell (p := ⟨b, 1, none⟩) (.inl rfl) _⟩
  obtain ⟨c', g1, _⟩ := hh
  refine ⟨0, ?_, Row.nil _ _, by simp [ab], Nat.le_refl _, by simp [maxLen], fun _ => rfl⟩
  have := heap_setCell (heap_setCell g1 0 (.slice none 0 0)) 1 (.bool true)
  simpa using this

set_option maxHeartbeats 800000 in
theorem low_any (A : Option Addr) (n c : Nat) (l : List UInt8) (w : World) (hn : l.length = n) (h8 : n ≤ 8) (hr : Row w A (bvs l)) :
    Calls Try.prog 35 #[.slice A n c] w fun e w' => e = .returned (.int .u64 (lowN l : Nat)) ∧ w = w' := by
  go_enter Try.func35, Try.ntmps35
  go_wp2
  go_loop [3, 8] (fun y i => ∃ k : Nat, k ≤ n ∧ i = .int .i64 k ∧ y = .int .u64 (lowN (l.take k) : Nat)) (fun _ i => n - (intOf i).toNat)
  case atStart => exact ⟨0, Nat.zero_le _, rfl, by simp [lowN]⟩
  case round =>
    obtain ⟨k, hk, rfl, rfl⟩ := hrel
    by_cases hlt : k < n
    · obtain ⟨x, hx⟩ : ∃ x, x = l[k]'(by omega) := ⟨_, rfl⟩
      obtain ⟨bb, oo, rfl, hbb, hcell⟩ := hr.at_ (i := k) (by simp [hn]; exact hlt)
      have hce : w.cell? ⟨bb, oo + k, none⟩ = some (.int .u8 x.toNat) := by rw [hcell, hx]; simp [bvs, bv]
      have HX := Lib.hid hx; clear hx hcell
      have h255 := x.toNat_lt
      have hnx : lowN (l.take (k + 1)) = lowN (l.take k ++ [x]) := by rw [HX.out, List.take_add_one, List.getElem?_eq_getElem (by omega)]; rfl
      have hor := or_u64_above (l.take k) x (by rw [List.length_take]; omega)
      rw [List.length_take, Nat.min_eq_left (by omega), ← hnx] at hor
      have HO := Lib.hid hor; clear hor hnx
      go_wp2
      go_round
      case rel => exact ⟨k + 1, by omega, by go_num, by rw [HO.out]⟩
      case measure => simp [intOf]; omega
    · go_wp2
      go_ret
      rw [List.take_of_length_le (by omega)]
      exact ⟨rfl, rfl⟩

set_option maxHeartbeats 800000 in
theorem rNext_nil (n : Int) (w : World) : Calls Try.prog 34 #[.pointer none, .int .i64 n] w fun e w' => e = .returned (.tuple #[.slice none 0 0, .bool false]) ∧ w = w' := by
  go_enter Try.func34, Try.ntmps34
  go_wp2_with (first | (go_at_call 25; refine (rGood_nil _).mono ?_; rintro e w' ⟨rfl, rfl⟩) | (go_at_call 36; refine (rFail_nil _).mono ?_; rintro e w' ⟨rfl, rfl⟩))
  go_ret2
  exact ⟨rfl, rfl⟩

def NoBytes (b : Nat) (w : World) (e : Ending) (w' : World) : Prop := e = .returned (.tuple #[.slice none 0 0, .bool false]) ∧ IsR w' b none [] true ∧ Kp (oneF b) w w'

set_option maxHeartbeats 800000 in
theorem rNext_bad (b : Nat) (A : Option Addr) (l : List UInt8) (n : Int) (w : World) (h : IsR w b A l true) :
    Calls Try.prog 34 #[.pointer (some ⟨b, 0, none⟩), .int .i64 n] w (NoBytes b w) := by
  go_enter Try.func34, Try.ntmps34
  go_wp2_with (first | (go_at_call 25; refine (rGood b A l true _ h).mono ?_; rintro e w' ⟨rfl, rfl⟩) | (go_at_call 36; refine (rFail b A l true _ h).mono ?_; rintro e w' ⟨rfl, hr, hk⟩))
  go_ret2
  exact ⟨rfl, hr, hk⟩
set_option maxHeartbeats 800000 in
theorem rNext_below (b : Nat) (A : Option Addr) (l : List UInt8) (n : Int) (w : World) (h : IsR w b A l false) (hn : n < 0) :
    Calls Try.prog 34 #[.pointer (some ⟨b, 0, none⟩), .int .i64 n] w (NoBytes b w) := by
  go_enter Try.func34, Try.ntmps34
  go_wp2_with (first | (go_at_call 25; refine (rGood b A l false _ h).mono ?_; rintro e w' ⟨rfl, rfl⟩) | (go_at_call 36; refine (rFail b A l false _ h).mono ?_; rintro e w' ⟨rfl, hr, hk⟩))
  go_ret2
  exact ⟨rfl, hr, hk⟩
set_option maxHeartbeats 800000 in
theorem rNext_above (b : Nat) (A : Option Addr) (l : List UInt8) (n : Int) (w : World) (h : IsR w b A l false) (h0 : 0 ≤ n) (hn : l.length < n) :
    Calls Try.prog 34 #[.pointer (some ⟨b, 0, none⟩), .int .i64 n] w (NoBytes b w) := by
  go_enter Try.func34, Try.ntmps34
  go_wp2_with (first | (go_at_call 25; refine (rGood b A l false _ h).mono ?_; rintro e w' ⟨rfl, rfl⟩) | (go_at_call 29; refine (rLeft b A l false _ h).mono ?_; rintro e w' ⟨rfl, rfl⟩) | (go_at_call 36; refine (rFail b A l false _ h).mono ?_; rintro e w' ⟨rfl, hr, hk⟩))
  go_ret2
  exact ⟨rfl, hr, hk⟩

theorem IsR.set {w : World} {b : Nat} {A A' : Option Addr} {l l' : List UInt8} {bad : Bool} {n c' : Nat} (h : IsR w b A l bad) (hr : Row w A' (bvs l')) (hA : ab A' = ab A) (hn : l'.length = n) (hc : n ≤ c') (hm : c' ≤ maxLen) (h0 : A' = none → c' = 0) :
    IsR (w.setCell ⟨b, 0, none⟩ (.slice A' n c')) b A' l' bad ∧ Kp (oneF b) w (w.setCell ⟨b, 0, none⟩ (.slice A' n c')) := by
  subst hn
  obtain ⟨c, h1, h2, h3, _⟩ := h
  have hk : Kp (oneF b) w (w.setCell ⟨b, 0, none⟩ (.slice A' l'.length c')) := (Kp.refl (oneF b) w).setCell (p := ⟨b, 0, none⟩) (.inl rfl) _
  refine ⟨⟨c', ?_, hr.keep hk (fun k e e' => h3 (by rw [← hA, e, e'])), by rw [hA]; exact h3, hc, hm, h0⟩, hk⟩
  have := heap_setCell h1 0 (.slice A' l'.length c')
  simpa using this
theorem ab_map (A : Option Addr) (k : Nat) : ab (A.map fun x => x.add k) = ab A := by
  cases A with
  | none => rfl
  | some a => by_cases hk : k = 0 <;> simp [ab, Addr.add, hk]

def SomeBytes (b : Nat) (A : Option Addr) (l : List UInt8) (k : Nat) (w : World) (e : Ending) (w' : World) : Prop :=
  ∃ c A', e = .returned (.tuple #[.slice A k c, .bool true]) ∧ IsR w' b A' (l.drop k) false ∧ Kp (oneF b) w w' ∧ Row w' A (bvs (l.take k)) ∧ ab A' = ab A ∧ ab A ≠ some b ∧ (A = none → c = 0)
set_option maxHeartbeats 800000 in
theorem rNext_ok (b : Nat) (A : Option Addr) (l : List UInt8) (k : Nat) (w : World) (h : IsR w b A l false) (hk : k ≤ l.length) :
    Calls Try.prog 34 #[.pointer (some ⟨b, 0, none⟩), .int .i64 k] w (SomeBytes b A l k w) := by
  have hh := h
  obtain ⟨c, h1, h2, h3, h4, h5, h6, h7, h8, h9⟩ := h.cells
  have HH := Lib.hid h9; clear h9
  unfold maxLen at h8
  go_enter Try.func34, Try.ntmps34
  go_wp2_with (first | (go_at_call 25; refine (rGood b A l false _ h).mono ?_; rintro e w' ⟨rfl, rfl⟩) | (go_at_call 29; refine (rLeft b A l false _ h).mono ?_; rintro e w' ⟨rfl, rfl⟩))
  case inl =>
    go_ret2
    obtain rfl : l.length = k := by omega
    have S := hh.set (A' := A) (l' := l.drop l.length) (n := l.length - l.length) (c' := 0) (by simpa [bvs] using Row.nil w A) rfl (by simp) (by omega) (by simp [maxLen]) (fun _ => rfl)
    exact ⟨_, A, rfl, S.1, S.2, by rw [bvs, List.map_take]; exact (h5.take l.length).keep S.2 (fun k e e' => h6 (by rw [e, e'])), rfl, h6, fun e => by have := HH.out e; omega⟩
  case inr =>
    go_ret2
    have S := hh.set (A' := A.map fun x => x.add k) (l' := l.drop k) (n := l.length - k) (c' := c - k) (by have := h5.drop k; simpa [bvs] using this) (ab_map A k) (by simp) (by omega) (by simp [maxLen]; omega) (fun e => by have := HH.out (by simpa using e); omega)
    have h5' := h5.take k
    exact ⟨_, _, rfl, S.1, S.2, by rw [bvs, List.map_take]; exact h5'.keep S.2 (fun k e e' => h6 (by rw [e, e'])), ab_map A k, h6, HH.out⟩

set_option maxHeartbeats 400000 in
theorem rRead2 (A : Option Addr) (n c : Nat) (l : List UInt8) (w : World) (hn : l.length = n) (hl : n ≤ 1099511627776) (hA : A = none → c = 0) (hr : Row w A (bvs l)) :
    Calls Try.prog 16 #[.slice A n c] w fun e w' => ∃ b A', e = .returned (.pointer (some ⟨b, 0, none⟩)) ∧ IsR w' b A' l false ∧ Kp nob w w' ∧ (∀ k, WF b A' k → w.heap.size ≤ k) ∧ (∀ k, WF b A' k → k < w'.heap.size) := by
  subst hn
  go_enter Try.func16, Try.ntmps16
  go_wp2_with (go_at_call 33; refine (clone_any A l.length c l _ rfl hl hA hr).mono ?_; rintro e w' ⟨A', c', rfl, ho, hk, hf, h0⟩)
  go_ret
  have hk2 : Kp nob w' (w'.alloc (.cells #[.slice A' l.length c', .bool false] 59)) := (Kp.refl _ _).alloc _
  have hcap := ho.cap
  refine ⟨w'.heap.size, A', rfl, ⟨c', heap_alloc_new w' _, ho.row.keep0 hk2, fun e => ?_, hcap.1, hcap.2, h0⟩, hk.trans hk2 (fun _ e => e.elim), fun k e => ?_, fun k e => ?_⟩
  · have := ho.lt _ e; omega
  · rcases e with rfl | e
    · exact hk.size
    · exact hf k e
  · rcases e with rfl | e
    · simp
    · have := ho.lt _ e; simp; omega

theorem rRead (A : Option Addr) (n c : Nat) (l : List UInt8) (w : World) (hn : l.length = n) (hl : n ≤ 1099511627776) (hA : A = none → c = 0) (hr : Row w A (bvs l)) :
    Calls Try.prog 16 #[.slice A n c] w fun e w' => ∃ b A', e = .returned (.pointer (some ⟨b, 0, none⟩)) ∧ IsR w' b A' l false ∧ Kp nob w w' ∧ (∀ k, WF b A' k → w.heap.size ≤ k) :=
  (rRead2 A n c l w hn hl hA hr).mono fun _ _ ⟨b, A', h1, h2, h3, h4, _⟩ => ⟨b, A', h1, h2, h3, h4⟩

theorem rNext_int (b : Nat) (A : Option Addr) (l : List UInt8) (n : Int) (w : World) (h : IsR w b A l false) (h0 : 0 ≤ n) (hk : n ≤ l.length) :
    Calls Try.prog 34 #[.pointer (some ⟨b, 0, none⟩), .int .i64 n] w (SomeBytes b A l n.toNat w) := by
  obtain ⟨k, rfl⟩ := Int.eq_ofNat_of_zero_le h0
  exact rNext_ok b A l k w h (by omega)
/-- What is left, and whether there was a fault, in the world behind a call. -/
def RPost (w : World) (b : Nat) (A : Option Addr) (s : List UInt8 × Bool) (w' : World) : Prop := ∃ A', IsR w' b A' s.1 s.2 ∧ Kp (oneF b) w w' ∧ (ab A' = ab A ∨ ab A' = none)
def bust : List UInt8 × Bool := ([], true)
def can (s : List UInt8 × Bool) (n : Int) : Bool := decide (s.2 = false ∧ 0 ≤ n ∧ n ≤ s.1.length)
def sTake (s : List UInt8 × Bool) (n : Int) : (List UInt8 × Bool) × (List UInt8 × Bool) :=
  if can s n then ((s.1.take n.toNat, true), (s.1.drop n.toNat, false)) else (([], false), bust)
theorem rNext_no (b : Nat) (A : Option Addr) (s : List UInt8 × Bool) (n : Int) (w : World) (h : IsR w b A s.1 s.2) (hc : can s n = false) :
    Calls Try.prog 34 #[.pointer (some ⟨b, 0, none⟩), .int .i64 n] w (NoBytes b w) := by
  obtain ⟨l, bad⟩ := s
  simp only [can, decide_eq_false_iff_not] at hc
  cases bad with
  | true => exact rNext_bad b A l n w h
  | false =>
    by_cases h0 : n < 0
    · exact rNext_below b A l n w h h0
    · exact rNext_above b A l n w h (by omega) (by have h3 : ¬ n ≤ (l.length : Int) := fun h => hc ⟨rfl, by omega, h⟩; omega)

def TakePost (w : World) (b : Nat) (A : Option Addr) (s : List UInt8 × Bool) (n : Int) (e : Ending) (w' : World) : Prop :=
  ∃ A2 c2, e = .returned (.tuple #[.slice A2 (sTake s n).1.1.length c2, .bool (sTake s n).1.2]) ∧ Own 5 w' A2 (sTake s n).1.1.length c2 (bvs (sTake s n).1.1) ∧ Fresh w.heap.size A2 ∧ RPost w b A (sTake s n).2 w'
set_option maxHeartbeats 800000 in
theorem rTake (b : Nat) (A : Option Addr) (s : List UInt8 × Bool) (n : Int) (w : World) (h : IsR w b A s.1 s.2) (hl : s.1.length ≤ 1099511627776) :
    Calls Try.prog 21 #[.pointer (some ⟨b, 0, none⟩), .int .i64 n] w (TakePost w b A s n) := by
  cases hc : can s n with
  | false =>
    have HC := Lib.hid hc; clear hc
    go_enter Try.func21, Try.ntmps21
    go_wp2_with (first | (go_at_call 34; refine (rNext_no b A s n _ h HC.out).mono ?_; rintro e w' ⟨rfl, hr, hk⟩) | (go_at_call 33; refine (clone_nil _).mono ?_; rintro e w' ⟨rfl, rfl⟩))
    go_ret2
    have e : sTake s n = (([], false), bust) := by simp [sTake, HC.out]
    refine ⟨none, 0, by rw [e]; rfl, by rw [e]; exact Own.nil _ _, (fun k h => by cases h), none, by rw [e]; exact hr, hk, .inr rfl⟩
  | true =>
    have hs : s.2 = false ∧ 0 ≤ n ∧ n ≤ s.1.length := by simpa [can] using hc
    have e : sTake s n = ((s.1.take n.toNat, true), (s.1.drop n.toNat, false)) := by simp [sTake, hc]
    have E := Lib.hid e; clear e hc
    obtain ⟨hs1, hs2, hs3⟩ := hs
    rw [hs1] at h
    clear hs1
    have hlen : (s.1.take n.toNat).length = n.toNat := by rw [List.length_take]; omega
    have HL := Lib.hid hlen; clear hlen
    go_enter Try.func21, Try.ntmps21
    go_wp2_with (first | (go_at_call 34; refine (rNext_int b A s.1 n _ h hs2 hs3).mono ?_; rintro e w1 ⟨c, A1, rfl, hr, hk, hrow, hA1, hA2, h0⟩) | (go_at_call 33; refine (clone_any A n.toNat c (s.1.take n.toNat) _ HL.out (by omega) h0 hrow).mono ?_; rintro e w' ⟨A', c', rfl, ho, hk2, hf, h0⟩))
    go_ret2
    have hl2 : (sTake s n).1.1.length = n.toNat := by rw [E.out]; exact HL.out
    refine ⟨A', c', by rw [hl2, E.out]; rfl, by rw [E.out]; exact ho, fun k e => Nat.le_trans hk.size (hf k e), A1, by rw [E.out]; exact hr.keep hk2 (fun _ _ e => e), hk.trans hk2 (fun _ e => e.elim), .inl hA1⟩

set_option maxHeartbeats 400000 in
theorem rTake_nil (n : Int) (w : World) : Calls Try.prog 21 #[.pointer none, .int .i64 n] w fun e w' => e = .returned (.tuple #[.slice none 0 0, .bool false]) ∧ w = w' := by
  go_enter Try.func21, Try.ntmps21
  go_wp2_with (first | (go_at_call 34; refine (rNext_nil _ _).mono ?_; rintro e w' ⟨rfl, rfl⟩) | (go_at_call 33; refine (clone_nil _).mono ?_; rintro e w' ⟨rfl, rfl⟩))
  go_ret2
  exact ⟨rfl, rfl⟩

def sNum (s : List UInt8 × Bool) : Int × (List UInt8 × Bool) := (wrap64 (lowN (sTake s 8).1.1 : Nat), (sTake s 8).2)
theorem sTake_length (s : List UInt8 × Bool) (n : Int) : (sTake s n).1.1.length ≤ n.toNat := by
  unfold sTake; split <;> simp; omega
set_option maxHeartbeats 800000 in
theorem rNum (b : Nat) (A : Option Addr) (s : List UInt8 × Bool) (w : World) (h : IsR w b A s.1 s.2) :
    Calls Try.prog 17 #[.pointer (some ⟨b, 0, none⟩)] w fun e w' => e = .returned (.int .i64 (sNum s).1) ∧ RPost w b A (sNum s).2 w' := by
  cases hc : can s 8 with
  | false =>
    have HC := Lib.hid hc; clear hc
    go_enter Try.func17, Try.ntmps17
    go_wp2_with (first | (go_at_call 34; refine (rNext_no b A s 8 _ h HC.out).mono ?_; rintro e w' ⟨rfl, hr, hk⟩) | (go_at_call 35; refine (low_any none 0 0 [] _ rfl (by omega) (Row.nil _ _)).mono ?_; rintro e w' ⟨rfl, rfl⟩))
    go_ret
    have e : sTake s 8 = (([], false), bust) := by simp [sTake, HC.out]
    refine ⟨?_, none, by rw [sNum, e]; exact hr, hk, .inr rfl⟩
    show Ending.returned (.int .i64 (wrap64 (lowN [] : Nat))) = _
    rw [sNum, e]
  | true =>
    have hs : s.2 = false ∧ (0 : Int) ≤ 8 ∧ (8 : Int) ≤ s.1.length := by simpa [can] using hc
    have e : sTake s 8 = ((s.1.take 8, true), (s.1.drop 8, false)) := by simp [sTake, hc]
    have E := Lib.hid e; clear e hc
    obtain ⟨hs1, _, hs3⟩ := hs
    rw [hs1] at h
    clear hs1
    have hlen : (s.1.take 8).length = 8 := by rw [List.length_take]; omega
    have HL := Lib.hid hlen; clear hlen
    go_enter Try.func17, Try.ntmps17
    go_wp2_with (first | (go_at_call 34; refine (rNext_int b A s.1 8 _ h (by omega) hs3).mono ?_; rintro e w1 ⟨c, A1, rfl, hr, hk, hrow, hA1, hA2, h0⟩) | (go_at_call 35; refine (low_any A 8 c (s.1.take 8) _ HL.out (by omega) hrow).mono ?_; rintro e w' ⟨rfl, rfl⟩))
    go_ret
    refine ⟨?_, A1, by rw [sNum, E.out]; exact hr, hk, .inl hA1⟩
    show Ending.returned (.int .i64 (wrap64 (lowN (s.1.take 8) : Nat))) = _
    rw [sNum, E.out]

theorem RPost.size {w w' : World} {b : Nat} {A : Option Addr} {s : List UInt8 × Bool} (h : RPost w b A s w') : w.heap.size ≤ w'.heap.size := by
  obtain ⟨_, _, h, _⟩ := h; exact h.size
theorem RPost.bust {w w1 w' : World} {b : Nat} {A : Option Addr} {s : List UInt8 × Bool} (h : RPost w b A s w1) (h1 : IsR w' b none [] true) (h2 : Kp (oneF b) w1 w') : RPost w b A bust w' := by
  obtain ⟨A1, _, hk, _⟩ := h
  exact ⟨none, h1, hk.trans h2 (fun _ e => .inl e), .inr rfl⟩

def sIn (s : List UInt8 × Bool) (lo hi : Int) : Int × (List UInt8 × Bool) := if (sNum s).1 < lo ∨ hi < (sNum s).1 then (0, bust) else sNum s
set_option maxHeartbeats 800000 in
theorem rIn (b : Nat) (A : Option Addr) (s : List UInt8 × Bool) (lo hi : Int) (w : World) (h : IsR w b A s.1 s.2) :
    Calls Try.prog 23 #[.pointer (some ⟨b, 0, none⟩), .int .i64 lo, .int .i64 hi] w fun e w' => e = .returned (.int .i64 (sIn s lo hi).1) ∧ RPost w b A (sIn s lo hi).2 w' := by
  obtain ⟨n, hn⟩ : ∃ n, n = (sNum s).1 := ⟨_, rfl⟩
  obtain ⟨s1, hs1⟩ : ∃ s1, s1 = (sNum s).2 := ⟨_, rfl⟩
  have hnum := rNum b A s w h
  rw [← hn, ← hs1] at hnum
  have hin : sIn s lo hi = if n < lo ∨ hi < n then (0, bust) else (n, s1) := by rw [sIn, ← hn, hs1, hn]
  have HI := Lib.hid hin; clear hin hn hs1
  by_cases c1 : n < lo
  · go_enter Try.func23, Try.ntmps23
    go_wp2_with fail
    refine hnum.mono ?_
    rintro e w1 ⟨rfl, hp⟩
    have hp2 := hp
    obtain ⟨A1, h1, hk1, hA1⟩ := hp2
    go_wp2_with (go_at_call 36; refine (rFail b A1 s1.1 s1.2 _ h1).mono ?_; rintro e w' ⟨rfl, hr, hk⟩)
    go_ret
    rw [HI.out, if_pos (.inl c1)]
    exact ⟨rfl, hp.bust hr hk⟩
  · by_cases c2 : hi < n
    · go_enter Try.func23, Try.ntmps23
      go_wp2_with fail
      refine hnum.mono ?_
      rintro e w1 ⟨rfl, hp⟩
      have hp2 := hp
      obtain ⟨A1, h1, hk1, hA1⟩ := hp2
      go_wp2_with (go_at_call 36; refine (rFail b A1 s1.1 s1.2 _ h1).mono ?_; rintro e w' ⟨rfl, hr, hk⟩)
      go_ret
      rw [HI.out, if_pos (.inr c2)]
      exact ⟨rfl, hp.bust hr hk⟩
    · go_enter Try.func23, Try.ntmps23
      go_wp2_with fail
      refine hnum.mono ?_
      rintro e w1 ⟨rfl, hp⟩
      go_wp2
      go_ret
      rw [HI.out, if_neg (by omega)]
      exact ⟨rfl, hp⟩

set_option maxHeartbeats 400000 in
theorem rEnd (b : Nat) (A : Option Addr) (s : List UInt8 × Bool) (w : World) (h : IsR w b A s.1 s.2) :
    Calls Try.prog 27 #[.pointer (some ⟨b, 0, none⟩)] w fun e w' => e = .returned (.bool (!s.2 && s.1.isEmpty)) ∧ w = w' := by
  obtain ⟨l, bad⟩ := s
  cases bad with
  | true =>
    go_enter Try.func27, Try.ntmps27
    go_wp2_with (first | (go_at_call 25; refine (rGood b A l true _ h).mono ?_; rintro e w' ⟨rfl, rfl⟩))
    go_ret
    exact ⟨rfl, rfl⟩
  | false =>
    go_enter Try.func27, Try.ntmps27
    go_wp2_with (first | (go_at_call 25; refine (rGood b A l false _ h).mono ?_; rintro e w' ⟨rfl, rfl⟩) | (go_at_call 29; refine (rLeft b A l false _ h).mono ?_; rintro e w' ⟨rfl, rfl⟩))
    go_ret
    refine ⟨?_, rfl⟩
    show Ending.returned (.bool ((l.length : Int) == 0)) = _
    cases l <;> simp
    omega

def sText (s : List UInt8 × Bool) (most : Int) : List UInt8 × (List UInt8 × Bool) :=
  if min most 65536 < (lowN (sTake s 3).1.1 : Nat) then ([], bust) else ((sTake (sTake s 3).2 (lowN (sTake s 3).1.1 : Nat)).1.1, (sTake (sTake s 3).2 (lowN (sTake s 3).1.1 : Nat)).2)

def NextPost (w : World) (b : Nat) (A : Option Addr) (s : List UInt8 × Bool) (n : Int) (e : Ending) (w' : World) : Prop :=
  ∃ A2 c2, e = .returned (.tuple #[.slice A2 (sTake s n).1.1.length c2, .bool (sTake s n).1.2]) ∧ Row w' A2 (bvs (sTake s n).1.1) ∧ (A2 = none → c2 = 0) ∧ RPost w b A (sTake s n).2 w' ∧ ab A2 ≠ some b
theorem rNext (b : Nat) (A : Option Addr) (s : List UInt8 × Bool) (n : Int) (w : World) (h : IsR w b A s.1 s.2) :
    Calls Try.prog 34 #[.pointer (some ⟨b, 0, none⟩), .int .i64 n] w (NextPost w b A s n) := by
  cases hc : can s n with
  | false =>
    refine (rNext_no b A s n w h hc).mono ?_
    rintro e w' ⟨rfl, hr, hk⟩
    have e : sTake s n = (([], false), bust) := by simp [sTake, hc]
    exact ⟨none, 0, by rw [e]; rfl, by rw [e]; exact Row.nil _ _, fun _ => rfl, ⟨none, by rw [e]; exact hr, hk, .inr rfl⟩, by simp [ab]⟩
  | true =>
    have hs : s.2 = false ∧ 0 ≤ n ∧ n ≤ s.1.length := by simpa [can] using hc
    have e : sTake s n = ((s.1.take n.toNat, true), (s.1.drop n.toNat, false)) := by simp [sTake, hc]
    rw [hs.1] at h
    refine (rNext_int b A s.1 n w h hs.2.1 hs.2.2).mono ?_
    rintro e' w' ⟨c, A1, rfl, hr, hk, hrow, hA1, hA2, h0⟩
    refine ⟨A, c, ?_, by rw [e]; exact hrow, h0, ⟨A1, by rw [e]; exact hr, hk, .inl hA1⟩, hA2⟩
    have hlen : (s.1.take n.toNat).length = n.toNat := by rw [List.length_take]; omega
    rw [e]
    simp only [hlen]

set_option maxHeartbeats 800000 in
set_option maxRecDepth 100000 in
theorem rText (b : Nat) (A : Option Addr) (s : List UInt8 × Bool) (most : Int) (w : World) (h : IsR w b A s.1 s.2) :
    Calls Try.prog 19 #[.pointer (some ⟨b, 0, none⟩), .int .i64 most] w fun e w' => e = .returned (.string (str (sText s most).1)) ∧ RPost w b A (sText s most).2 w' := by
  have hnext := rNext b A s 3 w h
  obtain ⟨t, ht⟩ : ∃ t, t = sTake s 3 := ⟨_, rfl⟩
  have hlen := sTake_length s 3
  unfold NextPost at hnext
  rw [← ht] at hnext hlen
  obtain ⟨m, hm⟩ : ∃ m, m = t.1.1.length := ⟨_, rfl⟩
  have hm3 : m ≤ 3 := by rw [hm]; simpa using hlen
  obtain ⟨N, hN⟩ : ∃ N, N = lowN t.1.1 := ⟨_, rfl⟩
  have hN0 : N < 16777216 := by
    have h1 := lowN_lt t.1.1
    have h2 : 256 ^ t.1.1.length ≤ 256 ^ 3 := Nat.pow_le_pow_right (by omega) (by omega)
    rw [← hN] at h1; omega
  have hlow : ∀ (A2 : Option Addr) (c2 : Nat) (w1 : World), Row w1 A2 (bvs t.1.1) → Calls Try.prog 35 #[.slice A2 m c2] w1 fun e w' => e = .returned (.int .u64 (N : Nat)) ∧ w1 = w' :=
    fun A2 c2 w1 hr => by rw [hN]; exact low_any A2 m c2 t.1.1 w1 hm.symm (by omega) hr
  rw [← hm] at hnext
  have hst : sText s most = if min most 65536 < (N : Int) then ([], bust) else ((sTake t.2 (N : Nat)).1.1, (sTake t.2 (N : Nat)).2) := by rw [sText, ← ht, ← hN]
  have HS := Lib.hid hst
  have HM := Lib.hid hm; have HT := Lib.hid ht; have HN := Lib.hid hN; have HL := Lib.hid hlow; have H0 := Lib.hid hN0
  clear hst hm ht hN hlow hlen hN0
  have hN1 : (N : Int) < 16777216 := by have := H0.out; omega
  have hN2 : (N : Int) ≤ 9223372036854775807 := by omega
  clear hN1
  have HI := Lib.hid h; clear h
  have fin1 : min most 65536 < (N : Int) → ∀ (w1 w' : World), RPost w b A t.2 w1 → IsR w' b none [] true → Kp (oneF b) w1 w' → Ending.returned (.string (str [])) = .returned (.string (str (sText s most).1)) ∧ RPost w b A (sText s most).2 w' := by
    intro hc w1 w' hp hr hk
    rw [HS.out, if_pos hc]
    exact ⟨rfl, hp.bust hr hk⟩
  have fin2 : ¬ min most 65536 < (N : Int) → ∀ (w1 w' : World) (A1 : Option Addr), Kp (oneF b) w w1 → (ab A1 = ab A ∨ ab A1 = none) → RPost w1 b A1 (sTake t.2 (N : Nat)).2 w' → Ending.returned (.string (str (sTake t.2 (N : Nat)).1.1)) = .returned (.string (str (sText s most).1)) ∧ RPost w b A (sText s most).2 w' := by
    rintro hc w1 w' A1 hk1 hA1 ⟨A2, h1, h2, h3⟩
    rw [HS.out, if_neg hc]
    refine ⟨rfl, A2, h1, hk1.trans h2 (fun _ e => .inl e), ?_⟩
    rcases h3 with h3 | h3
    · rcases hA1 with h4 | h4
      · exact .inl (h3.trans h4)
      · exact .inr (h3.trans h4)
    · exact .inr h3
  have F1 := Lib.hid fin1; clear fin1
  have F2 := Lib.hid fin2; clear fin2
  have conv : ∀ (w1 : World) (A2 : Option Addr) (n c : Nat) (l : List UInt8), l.length = n → Row w1 A2 (bvs l) → (convert 25 9 (.slice A2 n c)).run Try.prog w1 = .ok (.string (str l)) w1 :=
    fun w1 A2 n c l hn hr => run_bytes_str w1 25 9 5 u8_under (by kernel_rfl) u8_string A2 n c l hn hr
  have CV := Lib.hid conv; clear conv
  by_cases hm : most ≤ 65536
  · by_cases hc : most < (N : Int)
    · have hcc : min most 65536 < (N : Int) := by omega
      have HC := Lib.hid hcc; clear hcc
      have hb1 : decide (most < (N : Int)) = true := by simp; omega
      clear hc
      go_enter Try.func19, Try.ntmps19
      go_wp2_with fail
      refine hnext.mono ?_
      rintro e w1 ⟨A2, c2, rfl, hr, h0, hp, hne⟩
      have HP := Lib.hid hp
      obtain ⟨A1, h1, hk1, hA1⟩ := hp
      go_wp2_with (first | (go_at_call 35; refine (HL.out _ _ _ hr).mono ?_; rintro e w' ⟨rfl, rfl⟩) | (go_at_call 36; refine (rFail b A1 t.2.1 t.2.2 _ h1).mono ?_; rintro e w2 ⟨rfl, hr2, hk2⟩))
      refine (rNext_no b none bust (N : Int) _ hr2 (by simp [can, bust])).mono ?_
      rintro e w3 ⟨rfl, hr3, hk3⟩
      have c0 := CV.out w3 none 0 0 [] rfl (Row.nil _ _)
      go_wp2
      go_ret
      exact F1.out HC.out w1 w3 HP.out hr3 (hk2.trans hk3 (fun _ e => .inl e))
    · have hcc : ¬ min most 65536 < (N : Int) := by omega
      have HC := Lib.hid hcc; clear hcc
      have hb1 : decide (most < (N : Int)) = false := by simp; omega
      clear hc
      go_enter Try.func19, Try.ntmps19
      go_wp2_with fail
      refine hnext.mono ?_
      rintro e w1 ⟨A2, c2, rfl, hr, h0, hp, hne⟩
      have HP := Lib.hid hp
      obtain ⟨A1, h1, hk1, hA1⟩ := hp
      go_wp2_with (go_at_call 35; refine (HL.out _ _ _ hr).mono ?_; rintro e w' ⟨rfl, rfl⟩)
      refine (rNext b A1 t.2 (N : Int) _ h1).mono ?_
      rintro e w3 ⟨A3, c3, rfl, hr3, h03, hp3, hne3⟩
      have c0 := CV.out w3 A3 _ c3 _ rfl hr3
      go_wp2
      go_ret
      exact F2.out HC.out w1 w3 A1 hk1 hA1 hp3
  · by_cases hc : (65536 : Int) < (N : Int)
    · have hcc : min most 65536 < (N : Int) := by omega
      have HC := Lib.hid hcc; clear hcc
      have hb1 : decide ((65536 : Int) < (N : Int)) = true := by simp; omega
      clear hc
      go_enter Try.func19, Try.ntmps19
      go_wp2_with fail
      refine hnext.mono ?_
      rintro e w1 ⟨A2, c2, rfl, hr, h0, hp, hne⟩
      have HP := Lib.hid hp
      obtain ⟨A1, h1, hk1, hA1⟩ := hp
      go_wp2_with (first | (go_at_call 35; refine (HL.out _ _ _ hr).mono ?_; rintro e w' ⟨rfl, rfl⟩) | (go_at_call 36; refine (rFail b A1 t.2.1 t.2.2 _ h1).mono ?_; rintro e w2 ⟨rfl, hr2, hk2⟩))
      refine (rNext_no b none bust (N : Int) _ hr2 (by simp [can, bust])).mono ?_
      rintro e w3 ⟨rfl, hr3, hk3⟩
      have c0 := CV.out w3 none 0 0 [] rfl (Row.nil _ _)
      go_wp2
      go_ret
      exact F1.out HC.out w1 w3 HP.out hr3 (hk2.trans hk3 (fun _ e => .inl e))
    · have hcc : ¬ min most 65536 < (N : Int) := by omega
      have HC := Lib.hid hcc; clear hcc
      have hb1 : decide ((65536 : Int) < (N : Int)) = false := by simp; omega
      clear hc
      go_enter Try.func19, Try.ntmps19
      go_wp2_with fail
      refine hnext.mono ?_
      rintro e w1 ⟨A2, c2, rfl, hr, h0, hp, hne⟩
      have HP := Lib.hid hp
      obtain ⟨A1, h1, hk1, hA1⟩ := hp
      go_wp2_with (go_at_call 35; refine (HL.out _ _ _ hr).mono ?_; rintro e w' ⟨rfl, rfl⟩)
      refine (rNext b A1 t.2 (N : Int) _ h1).mono ?_
      rintro e w3 ⟨A3, c3, rfl, hr3, h03, hp3, hne3⟩
      have c0 := CV.out w3 A3 _ c3 _ rfl hr3
      go_wp2
      go_ret
      exact F2.out HC.out w1 w3 A1 hk1 hA1 hp3
end Go.Proofs.Ytenihiphcbheeaa
