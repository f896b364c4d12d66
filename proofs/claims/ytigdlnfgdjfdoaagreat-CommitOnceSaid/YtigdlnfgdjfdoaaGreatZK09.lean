/- Lemmas: CodeCl CodeR1 CodeRN CodeRI. -/
import Derived.Test.YtigdlnfgdjfdoaaGreatZK00
set_option maxHeartbeats 4000000
set_option maxRecDepth 100000
set_option linter.unusedVariables false
set_option linter.unusedSimpArgs false
namespace Go.Proofs.YtigdlnfgdjfdoaaGreat
open Go Go.RowKit Kit
theorem u8_info : (Tryz.prog.info? 5).map (fun i => (i.zero, i.size, i.bytes)) = some (some (.int .u8 0), 1, 1) := by kernel_rfl
theorem eq_nil (w : World) (A : Option Addr) (n c : Nat) : (binOp .eql 58 (.slice A n c) (.slice none 0 0)).run Tryz.prog w = .ok (.bool A.isNone) w :=
 Lib.run_eql_slice_nil w 58 5 A n c 0 0 u8_under
theorem clone_nil (w : World) : Calls Tryz.prog 84 #[.slice none 0 0] w fun e w' => e = .returned (.slice none 0 0) ∧ w = w' := by
 have hq := eq_nil
 go_enter Tryz.func84, Tryz.ntmps84
 go_wp2
 go_ret
 exact ⟨rfl, rfl⟩
theorem clone_some (a : Addr) (n c : Nat) (l : List UInt8) (w : World) (hn : l.length = n) (hl : n ≤ 1099511627776) (hr : Row w (some a) (bvs l)) :
    Calls Tryz.prog 84 #[.slice (some a) n c] w fun e w' => ∃ A' c', e = .returned (.slice A' n c') ∧ Kit.Own 5 w' A' n c' (bvs l) ∧ Kp nob w w' ∧ (∀ k, ab A' = some k → w.heap.size ≤ k) := by
 obtain ⟨i0, hi, hz0, hz1, hz2⟩ := info_parts u8_info
 have hr1 : Row (w.alloc (.cells #[] 5)) (some a) (bvs l) := hr.keep0 ((Kp.refl _ _).alloc _)
 have ho : Kit.Own 5 (w.alloc (.cells #[] 5)) (some ⟨w.heap.size, 0, none⟩) 0 0 [] := World.ownsRow_made w #[] 0 (Nat.zero_le _) (by simp [maxLen]) rfl
 have hq := eq_nil
 go_enter Tryz.func84, Tryz.ntmps84
 go_wp2_with (at_builtin; refine wpList_appR _ rfl (.tmp 5) (.tmp 6) 58 rfl 5 i0 (.int .u8 0) 1 u8_under hi hz0 hz1 hz2 rfl _ 0 0 [] rfl ho _ n c (bvs l) rfl (fun h => by cases h) (by simp [hn]) hr1 (bvs_one l) (by omega) (by omega) ?_)
 intro A' c' w' hown hg hab
 go_wp2
 go_ret
 exact ⟨A', c', rfl, by simpa using hown, ((Kp.refl _ _).alloc _).grown hg (fun k hk => .inr (by cases hk; exact Nat.le_refl _)), fun k hk => by rcases hab with h | h <;> rw [h] at hk <;> cases hk <;> simp⟩
def WF (b : Nat) (A : Option Addr) : Nat → Prop := fun k => k = b ∨ ab A = some k
def Fresh (B : Nat) (A : Option Addr) : Prop := ∀ k, ab A = some k → B ≤ k
def NewBytes (w : World) (l : List UInt8) (e : Ending) (w' : World) : Prop :=
 ∃ A' c', e = .returned (.slice A' l.length c') ∧ Kit.Own 5 w' A' l.length c' (bvs l) ∧ Kp nob w w' ∧ Fresh w.heap.size A' ∧ (A' = none → c' = 0)
theorem own_none {e : TypeId} {w : World} {A : Option Addr} {n c : Nat} {xs : List Value} (h : Own e w A n c xs) : A = none → c = 0 := by
 rintro rfl
 rcases h.2 with ⟨h1, _⟩ | ⟨g, cap, cur, h1, _⟩
 · injection h1
 · injection h1 with h1; cases h1
theorem clone_any (A : Option Addr) (n c : Nat) (l : List UInt8) (w : World) (hn : l.length = n) (hl : n ≤ 1099511627776) (hA : A = none → c = 0) (hr : Row w A (bvs l)) :
    Calls Tryz.prog 84 #[.slice A n c] w (NewBytes w l) := by
 subst hn
 cases A with
 | none =>
   obtain rfl := hA rfl
   have hl : l = [] := by
    rcases hr with h | ⟨b, o, h, _⟩
    · simpa [bvs] using h
    · cases h
   subst hl
   refine (clone_nil w).mono ?_
   rintro e w' ⟨rfl, rfl⟩
   exact ⟨none, 0, rfl, Own.nil _ _, Kp.refl _ _, (fun k h => by cases h), fun _ => rfl⟩
 | some a =>
   refine (clone_some a l.length c l w rfl hl hr).mono ?_
   rintro e w' ⟨A', c', rfl, ho, hk, hf⟩
   exact ⟨A', c', rfl, ho, hk, hf, own_none ho⟩
def IsR (w : World) (b : Nat) (A : Option Addr) (l : List UInt8) (bad : Bool) : Prop :=
 ∃ c, w.heap[b]? = some (.cells #[.slice A l.length c, .bool bad] 203 (0, 0)) ∧ Row w A (bvs l) ∧ ab A ≠ some b ∧ l.length ≤ c ∧ c ≤ maxLen ∧ (A = none → c = 0)
theorem IsR.lt {w : World} {b : Nat} {A : Option Addr} {l : List UInt8} {bad : Bool} (h : IsR w b A l bad) : b < w.heap.size := by
 obtain ⟨c, h, _⟩ := h
 rcases Nat.lt_or_ge b w.heap.size with hlt | hge
 · exact hlt
 · rw [Array.getElem?_eq_none hge] at h; cases h
theorem IsR.keep {F : Nat → Prop} {w w' : World} {b : Nat} {A : Option Addr} {l : List UInt8} {bad : Bool} (h : IsR w b A l bad) (hk : Kp F w w') (hf : ∀ k, WF b A k → ¬ F k) : IsR w' b A l bad := by
 have hb := h.lt
 obtain ⟨c, h1, h2, h3⟩ := h
 exact ⟨c, by rw [hk.block b hb (hf b (.inl rfl))]; exact h1, h2.keep hk (fun k e => hf k (.inr e)), h3⟩
theorem IsR.cells {w : World} {b : Nat} {A : Option Addr} {l : List UInt8} {bad : Bool} (h : IsR w b A l bad) :
    ∃ c, w.cell? ⟨b, 0, none⟩ = some (.slice A l.length c) ∧ w.cell? ⟨b, 1, none⟩ = some (.bool bad) ∧ w.frozen? ⟨b, 0, none⟩ = false ∧ w.frozen? ⟨b, 1, none⟩ = false ∧ Row w A (bvs l) ∧ ab A ≠ some b ∧ l.length ≤ c ∧ c ≤ maxLen ∧ (A = none → c = 0) := by
 obtain ⟨c, h1, h2⟩ := h
 exact ⟨c, by rw [cell_of_heap h1]; rfl, by rw [cell_of_heap h1]; rfl, frozen_of_heap h1 0, frozen_of_heap h1 1, h2⟩
theorem rGood (b : Nat) (A : Option Addr) (l : List UInt8) (bad : Bool) (w : World) (h : IsR w b A l bad) :
    Calls Tryz.prog 120 #[.pointer (some ⟨b, 0, none⟩)] w fun e w' => e = .returned (.bool (!bad)) ∧ w = w' := by
 obtain ⟨c, h1, h2, h3, h4, h5⟩ := h.cells
 clear h5
 go_enter Tryz.func120, Tryz.ntmps120
 go_wp2
 go_ret
 exact ⟨rfl, rfl⟩
theorem rLeft (b : Nat) (A : Option Addr) (l : List UInt8) (bad : Bool) (w : World) (h : IsR w b A l bad) :
    Calls Tryz.prog 121 #[.pointer (some ⟨b, 0, none⟩)] w fun e w' => e = .returned (.int .i64 l.length) ∧ w = w' := by
 obtain ⟨c, h1, h2, h3, h4, h5⟩ := h.cells
 clear h5
 go_enter Tryz.func121, Tryz.ntmps121
 go_wp2
 go_ret
 exact ⟨rfl, rfl⟩
theorem rFail (b : Nat) (A : Option Addr) (l : List UInt8) (bad : Bool) (w : World) (h : IsR w b A l bad) :
    Calls Tryz.prog 117 #[.pointer (some ⟨b, 0, none⟩)] w fun e w' => e = .returned (.tuple #[]) ∧ IsR w' b none [] true ∧ Kp (oneF b) w w' := by
 have hh := h
 obtain ⟨c, h1, h2, h3, h4, h5⟩ := h.cells
 clear h5
 go_enter Tryz.func117, Tryz.ntmps117
 go_wp2
 go_end0
 refine ⟨rfl, ?_, ((Kp.refl (oneF b) w).setCell (p := ⟨b, 0, none⟩) (.inl rfl) _).setCell (p := ⟨b, 1, none⟩) (.inl rfl) _⟩
 obtain ⟨c', g1, _⟩ := hh
 refine ⟨0, ?_, Row.nil _ _, by simp [ab], Nat.le_refl _, by simp [maxLen], fun _ => rfl⟩
 have := heap_setCell (heap_setCell g1 0 (.slice none 0 0)) 1 (.bool true)
 simpa using this
theorem low_any (A : Option Addr) (n c : Nat) (l : List UInt8) (w : World) (hn : l.length = n) (h8 : n ≤ 8) (hr : Row w A (bvs l)) :
    Calls Tryz.prog 119 #[.slice A n c] w fun e w' => e = .returned (.int .u64 (lowN l : Nat)) ∧ w = w' := by
 go_enter Tryz.func119, Tryz.ntmps119
 go_wp2
 go_loop [3, 8] (fun y i => ∃ k : Nat, k ≤ n ∧ i = .int .i64 k ∧ y = .int .u64 (lowN (l.take k) : Nat)) (fun _ i => n - (intOf i).toNat)
 case atStart => exact ⟨0, Nat.zero_le _, rfl, by simp [lowN]⟩
 case round =>
  obtain ⟨k, hk, rfl, rfl⟩ := hrel
  by_cases hlt : k < n
  · obtain ⟨x, hx⟩ : ∃ x, x = l[k]'(by omega) := ⟨_, rfl⟩
    obtain ⟨bb, oo, rfl, hbb, hcell⟩ := hr.at_ (i := k) (by simp [hn]; exact hlt)
    have hce : w.cell? ⟨bb, oo + k, none⟩ = some (.int .u8 x.toNat) := by rw [hcell, hx]; simp [bvs, bv]
    have HX := Lib.hid hx; clear hx hcell
    have h255 := x.toNat_lt
    have hnx : lowN (l.take (k + 1)) = lowN (l.take k ++ [x]) := by rw [HX.out, List.take_add_one, List.getElem?_eq_getElem (by omega)]; rfl
    have hor := or_u64_above (l.take k) x (by rw [List.length_take]; omega)
    rw [List.length_take, Nat.min_eq_left (by omega), ← hnx] at hor
    have HO := Lib.hid hor; clear hor hnx
    go_wp2
    go_round
    case rel => exact ⟨k + 1, by omega, by go_num, by rw [HO.out]⟩
    case measure => simp [intOf]; omega
  · go_wp2
    go_ret
    rw [List.take_of_length_le (by omega)]
    exact ⟨rfl, rfl⟩
def NoBytes (b : Nat) (w : World) (e : Ending) (w' : World) : Prop := e = .returned (.tuple #[.slice none 0 0, .bool false]) ∧ IsR w' b none [] true ∧ Kp (oneF b) w w'
theorem rNext_bad (b : Nat) (A : Option Addr) (l : List UInt8) (n : Int) (w : World) (h : IsR w b A l true) :
    Calls Tryz.prog 118 #[.pointer (some ⟨b, 0, none⟩), .int .i64 n] w (NoBytes b w) := by
 go_enter Tryz.func118, Tryz.ntmps118
 go_wp2_with (first | (go_at_call 120; refine (rGood b A l true _ h).mono ?_; rintro e w' ⟨rfl, rfl⟩) | (go_at_call 117; refine (rFail b A l true _ h).mono ?_; rintro e w' ⟨rfl, hr, hk⟩))
 go_ret2
 exact ⟨rfl, hr, hk⟩
theorem rNext_below (b : Nat) (A : Option Addr) (l : List UInt8) (n : Int) (w : World) (h : IsR w b A l false) (hn : n < 0) :
    Calls Tryz.prog 118 #[.pointer (some ⟨b, 0, none⟩), .int .i64 n] w (NoBytes b w) := by
 go_enter Tryz.func118, Tryz.ntmps118
 go_wp2_with (first | (go_at_call 120; refine (rGood b A l false _ h).mono ?_; rintro e w' ⟨rfl, rfl⟩) | (go_at_call 117; refine (rFail b A l false _ h).mono ?_; rintro e w' ⟨rfl, hr, hk⟩))
 go_ret2
 exact ⟨rfl, hr, hk⟩
theorem rNext_above (b : Nat) (A : Option Addr) (l : List UInt8) (n : Int) (w : World) (h : IsR w b A l false) (h0 : 0 ≤ n) (hn : l.length < n) :
    Calls Tryz.prog 118 #[.pointer (some ⟨b, 0, none⟩), .int .i64 n] w (NoBytes b w) := by
 go_enter Tryz.func118, Tryz.ntmps118
 go_wp2_with (first | (go_at_call 120; refine (rGood b A l false _ h).mono ?_; rintro e w' ⟨rfl, rfl⟩) | (go_at_call 121; refine (rLeft b A l false _ h).mono ?_; rintro e w' ⟨rfl, rfl⟩) | (go_at_call 117; refine (rFail b A l false _ h).mono ?_; rintro e w' ⟨rfl, hr, hk⟩))
 go_ret2
 exact ⟨rfl, hr, hk⟩
theorem IsR.set {w : World} {b : Nat} {A A' : Option Addr} {l l' : List UInt8} {bad : Bool} {n c' : Nat} (h : IsR w b A l bad) (hr : Row w A' (bvs l')) (hA : ab A' = ab A) (hn : l'.length = n) (hc : n ≤ c') (hm : c' ≤ maxLen) (h0 : A' = none → c' = 0) :
    IsR (w.setCell ⟨b, 0, none⟩ (.slice A' n c')) b A' l' bad ∧ Kp (oneF b) w (w.setCell ⟨b, 0, none⟩ (.slice A' n c')) := by
 subst hn
 obtain ⟨c, h1, h2, h3, _⟩ := h
 have hk : Kp (oneF b) w (w.setCell ⟨b, 0, none⟩ (.slice A' l'.length c')) := (Kp.refl (oneF b) w).setCell (p := ⟨b, 0, none⟩) (.inl rfl) _
 refine ⟨⟨c', ?_, hr.keep hk (fun k e e' => h3 (by rw [← hA, e, e'])), by rw [hA]; exact h3, hc, hm, h0⟩, hk⟩
 have := heap_setCell h1 0 (.slice A' l'.length c')
 simpa using this
theorem ab_map (A : Option Addr) (k : Nat) : ab (A.map fun x => x.add k) = ab A := by
 cases A with
 | none => rfl
 | some a => by_cases hk : k = 0 <;> simp [ab, Addr.add, hk]
def SomeBytes (b : Nat) (A : Option Addr) (l : List UInt8) (k : Nat) (w : World) (e : Ending) (w' : World) : Prop :=
 ∃ c A', e = .returned (.tuple #[.slice A k c, .bool true]) ∧ IsR w' b A' (l.drop k) false ∧ Kp (oneF b) w w' ∧ Row w' A (bvs (l.take k)) ∧ ab A' = ab A ∧ ab A ≠ some b ∧ (A = none → c = 0)
theorem rNext_ok (b : Nat) (A : Option Addr) (l : List UInt8) (k : Nat) (w : World) (h : IsR w b A l false) (hk : k ≤ l.length) :
    Calls Tryz.prog 118 #[.pointer (some ⟨b, 0, none⟩), .int .i64 k] w (SomeBytes b A l k w) := by
 have hh := h
 obtain ⟨c, h1, h2, h3, h4, h5, h6, h7, h8, h9⟩ := h.cells
 have HH := Lib.hid h9; clear h9
 unfold maxLen at h8
 go_enter Tryz.func118, Tryz.ntmps118
 go_wp2_with (first | (go_at_call 120; refine (rGood b A l false _ h).mono ?_; rintro e w' ⟨rfl, rfl⟩) | (go_at_call 121; refine (rLeft b A l false _ h).mono ?_; rintro e w' ⟨rfl, rfl⟩))
 case inl =>
  go_ret2
  obtain rfl : l.length = k := by omega
  have S := hh.set (A' := A) (l' := l.drop l.length) (n := l.length - l.length) (c' := 0) (by simpa [bvs] using Row.nil w A) rfl (by simp) (by omega) (by simp [maxLen]) (fun _ => rfl)
  exact ⟨_, A, rfl, S.1, S.2, by rw [bvs, List.map_take]; exact (h5.take l.length).keep S.2 (fun k e e' => h6 (by rw [e, e'])), rfl, h6, fun e => by have := HH.out e; omega⟩
 case inr =>
  go_ret2
  have S := hh.set (A' := A.map fun x => x.add k) (l' := l.drop k) (n := l.length - k) (c' := c - k) (by have := h5.drop k; simpa [bvs] using this) (ab_map A k) (by simp) (by omega) (by simp [maxLen]; omega) (fun e => by have := HH.out (by simpa using e); omega)
  have h5' := h5.take k
  exact ⟨_, _, rfl, S.1, S.2, by rw [bvs, List.map_take]; exact h5'.keep S.2 (fun k e e' => h6 (by rw [e, e'])), ab_map A k, h6, HH.out⟩
theorem rRead2 (A : Option Addr) (n c : Nat) (l : List UInt8) (w : World) (hn : l.length = n) (hl : n ≤ 1099511627776) (hA : A = none → c = 0) (hr : Row w A (bvs l)) :
    Calls Tryz.prog 101 #[.slice A n c] w fun e w' => ∃ b A', e = .returned (.pointer (some ⟨b, 0, none⟩)) ∧ IsR w' b A' l false ∧ Kp nob w w' ∧ (∀ k, WF b A' k → w.heap.size ≤ k) ∧ (∀ k, WF b A' k → k < w'.heap.size) := by
 subst hn
 go_enter Tryz.func101, Tryz.ntmps101
 go_wp2_with (go_at_call 84; refine (clone_any A l.length c l _ rfl hl hA hr).mono ?_; rintro e w' ⟨A', c', rfl, ho, hk, hf, h0⟩)
 go_ret
 have hk2 : Kp nob w' (w'.alloc (.cells #[.slice A' l.length c', .bool false] 203)) := (Kp.refl _ _).alloc _
 have hcap := ho.cap
 refine ⟨w'.heap.size, A', rfl, ⟨c', heap_alloc_new w' _, ho.row.keep0 hk2, fun e => ?_, hcap.1, hcap.2, h0⟩, hk.trans hk2 (fun _ e => e.elim), fun k e => ?_, fun k e => ?_⟩
 · have := ho.lt _ e; omega
 · rcases e with rfl | e
   · exact hk.size
   · exact hf k e
 · rcases e with rfl | e
   · simp
   · have := ho.lt _ e; simp; omega
theorem rRead (A : Option Addr) (n c : Nat) (l : List UInt8) (w : World) (hn : l.length = n) (hl : n ≤ 1099511627776) (hA : A = none → c = 0) (hr : Row w A (bvs l)) :
    Calls Tryz.prog 101 #[.slice A n c] w fun e w' => ∃ b A', e = .returned (.pointer (some ⟨b, 0, none⟩)) ∧ IsR w' b A' l false ∧ Kp nob w w' ∧ (∀ k, WF b A' k → w.heap.size ≤ k) :=
 (rRead2 A n c l w hn hl hA hr).mono fun _ _ ⟨b, A', h1, h2, h3, h4, _⟩ => ⟨b, A', h1, h2, h3, h4⟩
theorem rNext_int (b : Nat) (A : Option Addr) (l : List UInt8) (n : Int) (w : World) (h : IsR w b A l false) (h0 : 0 ≤ n) (hk : n ≤ l.length) :
    Calls Tryz.prog 118 #[.pointer (some ⟨b, 0, none⟩), .int .i64 n] w (SomeBytes b A l n.toNat w) := by
 obtain ⟨k, rfl⟩ := Int.eq_ofNat_of_zero_le h0
 exact rNext_ok b A l k w h (by omega)
def RPost (w : World) (b : Nat) (A : Option Addr) (s : List UInt8 × Bool) (w' : World) : Prop := ∃ A', IsR w' b A' s.1 s.2 ∧ Kp (oneF b) w w' ∧ (ab A' = ab A ∨ ab A' = none)
theorem rNext_no (b : Nat) (A : Option Addr) (s : List UInt8 × Bool) (n : Int) (w : World) (h : IsR w b A s.1 s.2) (hc : can s n = false) :
    Calls Tryz.prog 118 #[.pointer (some ⟨b, 0, none⟩), .int .i64 n] w (NoBytes b w) := by
 obtain ⟨l, bad⟩ := s
 simp only [can, decide_eq_false_iff_not] at hc
 cases bad with
 | true => exact rNext_bad b A l n w h
 | false =>
   by_cases h0 : n < 0
   · exact rNext_below b A l n w h h0
   · exact rNext_above b A l n w h (by omega) (by have h3 : ¬ n ≤ (l.length : Int) := fun h => hc ⟨rfl, by omega, h⟩; omega)
theorem rNum (b : Nat) (A : Option Addr) (s : List UInt8 × Bool) (w : World) (h : IsR w b A s.1 s.2) :
    Calls Tryz.prog 116 #[.pointer (some ⟨b, 0, none⟩)] w fun e w' => e = .returned (.int .i64 (sNum s).1) ∧ RPost w b A (sNum s).2 w' := by
 cases hc : can s 8 with
 | false =>
   have HC := Lib.hid hc; clear hc
   go_enter Tryz.func116, Tryz.ntmps116
   go_wp2_with (first | (go_at_call 118; refine (rNext_no b A s 8 _ h HC.out).mono ?_; rintro e w' ⟨rfl, hr, hk⟩) | (go_at_call 119; refine (low_any none 0 0 [] _ rfl (by omega) (Row.nil _ _)).mono ?_; rintro e w' ⟨rfl, rfl⟩))
   go_ret
   have e : sTake s 8 = (([], false), bust) := by simp [sTake, HC.out]
   refine ⟨?_, none, by rw [sNum, e]; exact hr, hk, .inr rfl⟩
   show Ending.returned (.int .i64 (wrap64 (lowN [] : Nat))) = _
   rw [sNum, e]
 | true =>
   have hs : s.2 = false ∧ (0 : Int) ≤ 8 ∧ (8 : Int) ≤ s.1.length := by simpa [can] using hc
   have e : sTake s 8 = ((s.1.take 8, true), (s.1.drop 8, false)) := by simp [sTake, hc]
   have E := Lib.hid e; clear e hc
   obtain ⟨hs1, _, hs3⟩ := hs
   rw [hs1] at h
   clear hs1
   have hlen : (s.1.take 8).length = 8 := by rw [List.length_take]; omega
   have HL := Lib.hid hlen; clear hlen
   go_enter Tryz.func116, Tryz.ntmps116
   go_wp2_with (first | (go_at_call 118; refine (rNext_int b A s.1 8 _ h (by omega) hs3).mono ?_; rintro e w1 ⟨c, A1, rfl, hr, hk, hrow, hA1, hA2, h0⟩) | (go_at_call 119; refine (low_any A 8 c (s.1.take 8) _ HL.out (by omega) hrow).mono ?_; rintro e w' ⟨rfl, rfl⟩))
   go_ret
   refine ⟨?_, A1, by rw [sNum, E.out]; exact hr, hk, .inl hA1⟩
   show Ending.returned (.int .i64 (wrap64 (lowN (s.1.take 8) : Nat))) = _
   rw [sNum, E.out]
theorem RPost.size {w w' : World} {b : Nat} {A : Option Addr} {s : List UInt8 × Bool} (h : RPost w b A s w') : w.heap.size ≤ w'.heap.size := by
 obtain ⟨_, _, h, _⟩ := h; exact h.size
theorem RPost.bust {w w1 w' : World} {b : Nat} {A : Option Addr} {s : List UInt8 × Bool} (h : RPost w b A s w1) (h1 : IsR w' b none [] true) (h2 : Kp (oneF b) w1 w') : RPost w b A bust w' := by
 obtain ⟨A1, _, hk, _⟩ := h
 exact ⟨none, h1, hk.trans h2 (fun _ e => .inl e), .inr rfl⟩
def NextPost (w : World) (b : Nat) (A : Option Addr) (s : List UInt8 × Bool) (n : Int) (e : Ending) (w' : World) : Prop :=
 ∃ A2 c2, e = .returned (.tuple #[.slice A2 (sTake s n).1.1.length c2, .bool (sTake s n).1.2]) ∧ Row w' A2 (bvs (sTake s n).1.1) ∧ (A2 = none → c2 = 0) ∧ RPost w b A (sTake s n).2 w' ∧ ab A2 ≠ some b
theorem rNext (b : Nat) (A : Option Addr) (s : List UInt8 × Bool) (n : Int) (w : World) (h : IsR w b A s.1 s.2) :
    Calls Tryz.prog 118 #[.pointer (some ⟨b, 0, none⟩), .int .i64 n] w (NextPost w b A s n) := by
 cases hc : can s n with
 | false =>
   refine (rNext_no b A s n w h hc).mono ?_
   rintro e w' ⟨rfl, hr, hk⟩
   have e : sTake s n = (([], false), bust) := by simp [sTake, hc]
   exact ⟨none, 0, by rw [e]; rfl, by rw [e]; exact Row.nil _ _, fun _ => rfl, ⟨none, by rw [e]; exact hr, hk, .inr rfl⟩, by simp [ab]⟩
 | true =>
   have hs : s.2 = false ∧ 0 ≤ n ∧ n ≤ s.1.length := by simpa [can] using hc
   have e : sTake s n = ((s.1.take n.toNat, true), (s.1.drop n.toNat, false)) := by simp [sTake, hc]
   rw [hs.1] at h
   refine (rNext_int b A s.1 n w h hs.2.1 hs.2.2).mono ?_
   rintro e' w' ⟨c, A1, rfl, hr, hk, hrow, hA1, hA2, h0⟩
   refine ⟨A, c, ?_, by rw [e]; exact hrow, h0, ⟨A1, by rw [e]; exact hr, hk, .inl hA1⟩, hA2⟩
   have hlen : (s.1.take n.toNat).length = n.toNat := by rw [List.length_take]; omega
   rw [e]
   simp only [hlen]
theorem rIn (b : Nat) (A : Option Addr) (s : List UInt8 × Bool) (lo hi : Int) (w : World) (h : IsR w b A s.1 s.2) :
    Calls Tryz.prog 102 #[.pointer (some ⟨b, 0, none⟩), .int .i64 lo, .int .i64 hi] w fun e w' => e = .returned (.int .i64 (sIn s lo hi).1) ∧ RPost w b A (sIn s lo hi).2 w' := by
 obtain ⟨n, hn⟩ : ∃ n, n = (sNum s).1 := ⟨_, rfl⟩
 obtain ⟨s1, hs1⟩ : ∃ s1, s1 = (sNum s).2 := ⟨_, rfl⟩
 have hnum := rNum b A s w h
 rw [← hn, ← hs1] at hnum
 have hin : sIn s lo hi = if n < lo ∨ hi < n then (0, bust) else (n, s1) := by rw [sIn, ← hn, hs1, hn]
 have HI := Lib.hid hin; clear hin hn hs1
 by_cases c1 : n < lo
 · go_enter Tryz.func102, Tryz.ntmps102
   go_wp2_with fail
   refine hnum.mono ?_
   rintro e w1 ⟨rfl, hp⟩
   have hp2 := hp
   obtain ⟨A1, h1, hk1, hA1⟩ := hp2
   go_wp2_with (go_at_call 117; refine (rFail b A1 s1.1 s1.2 _ h1).mono ?_; rintro e w' ⟨rfl, hr, hk⟩)
   go_ret
   rw [HI.out, if_pos (.inl c1)]
   exact ⟨rfl, hp.bust hr hk⟩
 · by_cases c2 : hi < n
   · go_enter Tryz.func102, Tryz.ntmps102
     go_wp2_with fail
     refine hnum.mono ?_
     rintro e w1 ⟨rfl, hp⟩
     have hp2 := hp
     obtain ⟨A1, h1, hk1, hA1⟩ := hp2
     go_wp2_with (go_at_call 117; refine (rFail b A1 s1.1 s1.2 _ h1).mono ?_; rintro e w' ⟨rfl, hr, hk⟩)
     go_ret
     rw [HI.out, if_pos (.inr c2)]
     exact ⟨rfl, hp.bust hr hk⟩
   · go_enter Tryz.func102, Tryz.ntmps102
     go_wp2_with fail
     refine hnum.mono ?_
     rintro e w1 ⟨rfl, hp⟩
     go_wp2
     go_ret
     rw [HI.out, if_neg (by omega)]
     exact ⟨rfl, hp⟩
end Go.Proofs.YtigdlnfgdjfdoaaGreat
