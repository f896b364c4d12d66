/- Contracts of bytes.Clone and of the writer of package code: numbers and bytes. · Contracts of the reader of package code: what is left, numbers; all that was written. · Writing one thing at a time. -/
import Derived.Test.YtmmpmncioifeoaaZG03
import Derived.Test.YtmmpmncioifeoaaRows
import Derived.Lib.LazyBuf
namespace Go.Proofs.Ytmmpmncioifeoaa
set_option linter.unusedVariables false
set_option linter.unusedSimpArgs false
open Go Go.RowKit Kit

theorem u8_info : (Try.prog.info? 5).map (fun i => (i.zero, i.size, i.bytes)) = some (some (.int .u8 0), 1, 1) := by kernel_rfl

theorem eq_nil (w : World) (A : Option Addr) (n c : Nat) : (binOp .eql 29 (.slice A n c) (.slice none 0 0)).run Try.prog w = .ok (.bool A.isNone) w :=
  Lib.run_eql_slice_nil w 29 5 A n c 0 0 u8_under

set_option maxHeartbeats 400000 in
theorem clone_nil (w : World) : Calls Try.prog 25 #[.slice none 0 0] w fun e w' => e = .returned (.slice none 0 0) ∧ w = w' := by
  have hq := eq_nil
  go_enter Try.func25, Try.ntmps25
  go_wp2
  go_ret
  exact ⟨rfl, rfl⟩

set_option maxHeartbeats 400000 in
theorem clone_some (a : Addr) (n c : Nat) (l : List UInt8) (w : World) (hn : l.length = n) (hl : n ≤ 1099511627776) (hr : Row w (some a) (bvs l)) :
    Calls Try.prog 25 #[.slice (some a) n c] w fun e w' => ∃ A' c', e = .returned (.slice A' n c') ∧ Own 5 w' A' n c' (bvs l) ∧ Kp nob w w' ∧ (∀ k, ab A' = some k → w.heap.size ≤ k) := by
  obtain ⟨i0, hi, hz0, hz1, hz2⟩ := info_parts u8_info
  have hr1 : Row (w.alloc (.cells #[] 5)) (some a) (bvs l) := hr.keep0 ((Kp.refl _ _).alloc _)
  have ho : Own 5 (w.alloc (.cells #[] 5)) (some ⟨w.heap.size, 0, none⟩) 0 0 [] := World.ownsRow_made w #[] 0 (Nat.zero_le _) (by simp [maxLen]) rfl
  have hq := eq_nil
  go_enter Try.func25, Try.ntmps25
  go_wp2_with (at_builtin; refine wpList_appR _ rfl (.tmp 5) (.tmp 6) 29 rfl 5 i0 (.int .u8 0) 1 u8_under hi hz0 hz1 hz2 rfl _ 0 0 [] rfl ho _ n c (bvs l) rfl (fun h => by cases h) (by simp [hn]) hr1 (bvs_one l) (by omega) (by omega) ?_)
  intro A' c' w' hown hg hab
  go_wp2
  go_ret
  exact ⟨A', c', rfl, by simpa using hown, ((Kp.refl _ _).alloc _).grown hg (fun k hk => .inr (by cases hk; exact Nat.le_refl _)), fun k hk => by rcases hab with h | h <;> rw [h] at hk <;> cases hk <;> simp⟩

set_option maxHeartbeats 800000 in
theorem appendLow_any (A : Option Addr) (n c : Nat) (l : List UInt8) (x sz : Nat) (w : World) (hown : Own 5 w A n c (bvs l)) (_hx : x < 18446744073709551616) (hsz : sz ≤ 8) (hl : n ≤ 1099511627776) :
    Calls Try.prog 26 #[.slice A n c, .int .u64 x, .int .i64 sz] w fun e w' => ∃ A' c', e = .returned (.slice A' (n + sz) c') ∧ Own 5 w' A' (n + sz) c' (bvs (l ++ le sz x)) ∧ Kp (rowF A) w w' ∧ Grew A A' w.heap.size := by
  obtain ⟨i0, hi, hz0, hz1, hz2⟩ := info_parts u8_info
  go_enter Try.func26, Try.ntmps26
  go_wp2
  go_loopw [0, 1, 8] (fun b y i wr => ∃ (k : Nat) (A' : Option Addr) (c' : Nat), k ≤ sz ∧ i = .int .i64 k ∧ b = .slice A' (n + k) c' ∧ y = .int .u64 (x / 256 ^ k : Nat) ∧ Own 5 wr A' (n + k) c' (bvs (l ++ le k x)) ∧ Kp (rowF A) w wr ∧ Grew A A' w.heap.size)
    (fun _ _ i _ => sz - (intOf i).toNat)
  case atStart => exact ⟨0, A, c, Nat.zero_le _, rfl, rfl, by simp, by simpa [le] using hown, Kp.refl _ _, Grew.refl _ _⟩
  case round =>
    obtain ⟨k, A', c', hk, rfl, rfl, rfl, ho, hkp, hgr⟩ := hrel
    by_cases hlt : k < sz
    · go_wp2_with (at_builtin; refine wpList_appR _ rfl (.tmp 10) (.tmp 13) 29 rfl 5 i0 (.int .u8 0) 1 u8_under hi hz0 hz1 hz2 rfl A' (n + k) c' (bvs (l ++ le k x)) rfl ?c0 (some ⟨wr.heap.size, 0, none⟩) 1 1 [bv (UInt8.ofNat (x / 256 ^ k))] rfl (fun h => by cases h) rfl ?c1 ?c2 (by omega) (by omega) ?_)
      case c0 => exact ho.keep ((Kp.refl nob _).alloc _) (fun _ _ e => e)
      case c1 => rw [bv_ofNat]; simpa using row_one wr _ _
      case c2 => intro u hu; simp at hu; subst hu; rfl
      intro A'' c'' w' ho2 hg2 hab2
      go_wp2
      go_roundw
      case rel =>
        refine ⟨k + 1, A'', c'', by omega, by go_num, rfl, ?_, ?_, ?_, ?_⟩
        · rw [Nat.pow_succ, ← Nat.div_div_eq_div_mul]; simp
        · rw [le_snoc, ← List.append_assoc, bvs_append]; exact ho2
        · exact (hkp.alloc _).grown hg2 (fun i hi => hgr.sub i hi)
        · exact hgr.trans (.of hab2 (by have := hkp.size; omega)) (Nat.le_refl _)
      case measure => simp [intOf]; omega
    · go_wp2
      go_ret
      obtain rfl : k = sz := by omega
      exact ⟨A', c', rfl, ho, hkp, hgr⟩

theorem appendLow_int (A : Option Addr) (n c : Nat) (l : List UInt8) (x : Int) (sz : Nat) (w : World) (hown : Own 5 w A n c (bvs l)) (hx0 : 0 ≤ x) (_hx : x < 18446744073709551616) (hsz : sz ≤ 8) (hl : n ≤ 1099511627776) :
    Calls Try.prog 26 #[.slice A n c, .int .u64 x, .int .i64 sz] w fun e w' => ∃ A' c', e = .returned (.slice A' (n + sz) c') ∧ Own 5 w' A' (n + sz) c' (bvs (l ++ le sz x.toNat)) ∧ Kp (rowF A) w w' ∧ Grew A A' w.heap.size := by
  obtain ⟨y, rfl⟩ := Int.eq_ofNat_of_zero_le hx0
  exact appendLow_any A n c l y sz w hown (by omega) hsz hl

/-- A writer at block b, whose bytes lie at A. -/
def IsW (w : World) (b : Nat) (A : Option Addr) (l : List UInt8) : Prop :=
  ∃ c, w.heap[b]? = some (.cells #[.slice A l.length c] 65 (0, 0)) ∧ Own 5 w A l.length c (bvs l) ∧ ab A ≠ some b
def WF (b : Nat) (A : Option Addr) : Nat → Prop := fun k => k = b ∨ ab A = some k
theorem IsW.lt {w : World} {b : Nat} {A : Option Addr} {l : List UInt8} (h : IsW w b A l) : b < w.heap.size := by
  obtain ⟨c, h, _⟩ := h
  rcases Nat.lt_or_ge b w.heap.size with hlt | hge
  · exact hlt
  · rw [Array.getElem?_eq_none hge] at h; cases h
theorem IsW.row {w : World} {b : Nat} {A : Option Addr} {l : List UInt8} (h : IsW w b A l) : Row w A (bvs l) := by
  obtain ⟨c, _, h, _⟩ := h; exact h.row
theorem IsW.keep {F : Nat → Prop} {w w' : World} {b : Nat} {A : Option Addr} {l : List UInt8} (h : IsW w b A l) (hk : Kp F w w') (hf : ∀ k, WF b A k → ¬ F k) : IsW w' b A l := by
  have hb := h.lt
  obtain ⟨c, h1, h2, h3⟩ := h
  exact ⟨c, by rw [hk.block b hb (hf b (.inl rfl))]; exact h1, h2.keep hk (fun k e => hf k (.inr e)), h3⟩
theorem IsW.fLt {w : World} {b : Nat} {A : Option Addr} {l : List UInt8} (h : IsW w b A l) : ∀ k, WF b A k → k < w.heap.size := by
  intro k hk
  rcases hk with rfl | hk
  · exact h.lt
  · obtain ⟨c, _, h2, _⟩ := h; exact h2.lt k hk
theorem IsW.put {w w1 : World} {b : Nat} {A A' : Option Addr} {l l' : List UInt8} {n c' : Nat} (h : IsW w b A l) (hk : Kp (rowF A) w w1) (ho : Own 5 w1 A' n c' (bvs l')) (hg : Grew A A' w.heap.size) :
    IsW (w1.setCell ⟨b, 0, none⟩ (.slice A' n c')) b A' l' ∧ Kp (WF b A) w (w1.setCell ⟨b, 0, none⟩ (.slice A' n c')) ∧ Own 5 (w1.setCell ⟨b, 0, none⟩ (.slice A' n c')) A' n c' (bvs l') := by
  have hb := h.lt
  obtain ⟨c, h1, h2, h3⟩ := h
  obtain rfl : l'.length = n := by simpa using ho.len
  have hne : ab A' ≠ some b := by
    rcases hg with hg | ⟨k, hg, hk⟩
    · rw [hg]; exact h3
    · rw [hg]; intro e; cases e; omega
  have ho' := ho.keep (F := fun k => k = b) ((Kp.refl (fun k => k = b) w1).setCell (p := ⟨b, 0, none⟩) (.inl rfl) (.slice A' l'.length c')) (fun k e e' => hne (by rw [e, e']))
  refine ⟨⟨c', ?_, ho', hne⟩, (hk.mono (fun _ _ e => .inr e)).setCell (.inl (.inl rfl)) _, ho'⟩
  have := heap_setCell (hk.block b hb (by unfold rowF; exact h3) ▸ h1) 0 (.slice A' l'.length c')
  simpa using this

def WPost (w : World) (b : Nat) (A : Option Addr) (l' : List UInt8) (w' : World) : Prop := ∃ A', IsW w' b A' l' ∧ Kp (WF b A) w w' ∧ Grew A A' w.heap.size

set_option maxHeartbeats 400000 in
theorem wByte (b : Nat) (A : Option Addr) (l : List UInt8) (B : Option Addr) (m d : Nat) (ml : List UInt8) (w : World) (h : IsW w b A l) (hB : B = none → d = 0) (hm : ml.length = m) (hr : Row w B (bvs ml)) (hl : l.length + m ≤ 1099511627776) :
    Calls Try.prog 64 #[.pointer (some ⟨b, 0, none⟩), .slice B m d] w fun e w' => e = .returned (.tuple #[]) ∧ WPost w b A (l ++ ml) w' := by
  obtain ⟨i0, hi, hz0, hz1, hz2⟩ := info_parts u8_info
  have H := h
  have hb := h.lt
  obtain ⟨c, h1, h2, h3⟩ := h
  have hc : w.cell? ⟨b, 0, none⟩ = some (.slice A l.length c) := by rw [cell_of_heap h1]; rfl
  have H1 := Lib.hid h1; clear h1
  go_enter Try.func64, Try.ntmps64
  go_wp2_with (at_builtin; refine wpList_appR _ rfl (.tmp 10) (.tmp 11) 29 rfl 5 i0 (.int .u8 0) 1 u8_under hi hz0 hz1 hz2 rfl A l.length c (bvs l) rfl h2 B m d (bvs ml) rfl hB (by simp [hm]) hr (bvs_one _) (by omega) (by omega) ?_)
  intro A' c' w1 ho hg hab
  have hk : Kp (rowF A) w w1 := (Kp.refl _ _).grown hg (fun k e => .inl e)
  have hc1 : w1.cell? ⟨b, 0, none⟩ = some (.slice A l.length c) := (hk.cell (p := ⟨b, 0, none⟩) hb h3).trans hc
  have hf1 : w1.frozen? ⟨b, 0, none⟩ = false := (hk.frozen (p := ⟨b, 0, none⟩) hb h3).trans (frozen_of_heap H1.out 0)
  go_wp2
  go_end0
  have := H.put hk (l' := l ++ ml) (by rw [bvs_append]; exact ho) (.of hab (Nat.le_refl _))
  exact ⟨rfl, A', this.1, this.2.1, .of hab (Nat.le_refl _)⟩

theorem flat_snoc {α : Type} (f : α → List UInt8) (ns : List α) (k : Nat) (h : k < ns.length) : (ns.take (k + 1)).flatMap f = (ns.take k).flatMap f ++ f ns[k] := by
  rw [List.take_add_one, List.getElem?_eq_getElem h, List.flatMap_append]; simp only [Option.toList_some, List.flatMap_cons, List.flatMap_nil, List.append_nil]
theorem nums_length (ns : List Int) : (ns.flatMap num8).length = 8 * ns.length := by
  induction ns with
  | nil => rfl
  | cons n ns ih => simp [ih]; omega
def ivs (ns : List Int) : List Value := ns.map (.int .i64)
@[simp] theorem ivs_length (ns : List Int) : (ivs ns).length = ns.length := by simp [ivs]

set_option maxHeartbeats 800000 in
theorem wNum (b : Nat) (A : Option Addr) (l : List UInt8) (B : Option Addr) (m d : Nat) (ns : List Int) (w : World) (h : IsW w b A l) (hm : ns.length = m) (hr : Row w B (ivs ns)) (hB : ∀ k, ab B = some k → ¬ WF b A k) (hmm : m ≤ 1099511627776) (hl : l.length + 8 * m ≤ 1099511627776) :
    Calls Try.prog 22 #[.pointer (some ⟨b, 0, none⟩), .slice B m d] w fun e w' => e = .returned (.tuple #[]) ∧ WPost w b A (l ++ ns.flatMap num8) w' := by
  go_enter Try.func22, Try.ntmps22
  go_wp2
  go_loopw [10] (fun i wr => ∃ (k : Nat) (A' : Option Addr), k ≤ m ∧ i = .int .i64 k ∧ IsW wr b A' (l ++ (ns.take k).flatMap num8) ∧ Kp (WF b A) w wr ∧ Grew A A' w.heap.size)
    (fun i _ => m - (intOf i).toNat)
  case atStart => exact ⟨0, A, Nat.zero_le _, rfl, by simpa using h, Kp.refl _ _, Grew.refl _ _⟩
  case round =>
    obtain ⟨k, A', hk, rfl, ho, hkp, hgr⟩ := hrel
    by_cases hlt : k < m
    · obtain ⟨x, hx⟩ : ∃ x, x = ns[k]'(by omega) := ⟨_, rfl⟩
      obtain ⟨bb, oo, rfl, hbb, hcell⟩ := hr.at_ (i := k) (by simp [hm]; exact hlt)
      have hce : wr.cell? ⟨bb, oo + k, none⟩ = some (.int .i64 x) := by rw [hkp.cell (p := ⟨bb, oo + k, none⟩) hbb (hB bb rfl), hcell, hx]; simp [ivs]
      have HX := Lib.hid hx; clear hx hcell
      have H := ho
      have hb := ho.lt
      obtain ⟨c, h1, h2, h3⟩ := ho
      have hc : wr.cell? ⟨b, 0, none⟩ = some (.slice A' (l ++ (ns.take k).flatMap num8).length c) := by rw [cell_of_heap h1]; rfl
      have hlen : (l ++ (ns.take k).flatMap num8).length = l.length + 8 * k := by rw [List.length_append, nums_length, List.length_take, hm, Nat.min_eq_left hk]
      rw [hlen] at hc h2
      have H1 := Lib.hid h1; clear h1
      have HL := Lib.hid hlen; clear hlen
      have hx0 : 0 ≤ x % 18446744073709551616 := by omega
      have hx1 : x % 18446744073709551616 < 18446744073709551616 := by omega
      go_wp2_with fail
      refine (appendLow_int A' (l.length + 8 * k) c _ _ 8 _ h2 hx0 hx1 (by omega) (by omega)).mono ?_
      rintro e w1 ⟨A'', c'', rfl, ho1, hk1, hg1⟩
      have hb1 : w1.heap[b]? = wr.heap[b]? := hk1.block b hb h3
      have hc1 : w1.cell? ⟨b, 0, none⟩ = some (.slice A' (l.length + 8 * k) c) := (hk1.cell (p := ⟨b, 0, none⟩) hb h3).trans hc
      have hf1 : w1.frozen? ⟨b, 0, none⟩ = false := (hk1.frozen (p := ⟨b, 0, none⟩) hb h3).trans (frozen_of_heap H1.out 0)
      have HB := Lib.hid hb1; clear hb1
      have R := H.put hk1 ho1 hg1
      go_wp2
      go_roundw
      case rel =>
        refine ⟨k + 1, A'', by omega, by go_num, ?_, hkp.trans R.2.1 (fun i hi => ?_), hgr.trans hg1 hkp.size⟩
        · have := R.1
          rwa [flat_snoc num8 ns k (by omega), ← List.append_assoc, ← HX.out]
        · rcases hi with rfl | hi
          · exact .inl (.inl rfl)
          · exact (hgr.sub i hi).imp_left .inr
      case measure => simp [intOf]; omega
    · go_wp2
      go_end0
      obtain rfl : k = m := by omega
      rw [List.take_of_length_le (by omega)] at ho
      exact ⟨rfl, A', ho, hkp, hgr⟩
end Go.Proofs.Ytmmpmncioifeoaa
namespace Go.Proofs.Ytmmpmncioifeoaa
set_option linter.unusedVariables false
set_option linter.unusedSimpArgs false
open Go Go.RowKit Kit

/-- bytes.Clone of any bytes: new memory. -/
def Fresh (B : Nat) (A : Option Addr) : Prop := ∀ k, ab A = some k → B ≤ k
def NewBytes (w : World) (l : List UInt8) (e : Ending) (w' : World) : Prop :=
  ∃ A' c', e = .returned (.slice A' l.length c') ∧ Own 5 w' A' l.length c' (bvs l) ∧ Kp nob w w' ∧ Fresh w.heap.size A' ∧ (A' = none → c' = 0)
theorem own_none {e : TypeId} {w : World} {A : Option Addr} {n c : Nat} {xs : List Value} (h : Own e w A n c xs) : A = none → c = 0 := by
  rintro rfl
  rcases h.2 with ⟨h1, _⟩ | ⟨g, cap, cur, h1, _⟩
  · injection h1
  · injection h1 with h1; cases h1
theorem clone_any (A : Option Addr) (n c : Nat) (l : List UInt8) (w : World) (hn : l.length = n) (hl : n ≤ 1099511627776) (hA : A = none → c = 0) (hr : Row w A (bvs l)) :
    Calls Try.prog 25 #[.slice A n c] w (NewBytes w l) := by
  subst hn
  cases A with
  | none =>
    obtain rfl := hA rfl
    have hl : l = [] := by
      rcases hr with h | ⟨b, o, h, _⟩
      · simpa [bvs] using h
      · cases h
    subst hl
    refine (clone_nil w).mono ?_
    rintro e w' ⟨rfl, rfl⟩
    exact ⟨none, 0, rfl, Own.nil _ _, Kp.refl _ _, (fun k h => by cases h), fun _ => rfl⟩
  | some a =>
    refine (clone_some a l.length c l w rfl hl hr).mono ?_
    rintro e w' ⟨A', c', rfl, ho, hk, hf⟩
    exact ⟨A', c', rfl, ho, hk, hf, own_none ho⟩

set_option maxHeartbeats 400000 in
theorem wBytes (b : Nat) (A : Option Addr) (l : List UInt8) (w : World) (h : IsW w b A l) (hl : l.length ≤ 1099511627776) :
    Calls Try.prog 23 #[.pointer (some ⟨b, 0, none⟩)] w (NewBytes w l) := by
  obtain ⟨c, h1, h2, h3⟩ := h
  have hc : w.cell? ⟨b, 0, none⟩ = some (.slice A l.length c) := by rw [cell_of_heap h1]; rfl
  clear h1
  go_enter Try.func23, Try.ntmps23
  go_wp2_with fail
  refine (clone_any A l.length c l _ rfl hl (own_none h2) h2.row).mono ?_
  rintro e w' ⟨A', c', rfl, ho, hk, hf, hn⟩
  go_wp2
  go_ret
  exact ⟨A', c', rfl, ho, hk, hf, hn⟩

/-- A reader at block b: what is left, and whether there was a fault. -/
def IsR (w : World) (b : Nat) (A : Option Addr) (l : List UInt8) (bad : Bool) : Prop :=
  ∃ c, w.heap[b]? = some (.cells #[.slice A l.length c, .bool bad] 111 (0, 0)) ∧ Row w A (bvs l) ∧ ab A ≠ some b ∧ l.length ≤ c ∧ c ≤ maxLen ∧ (A = none → c = 0)
theorem IsR.lt {w : World} {b : Nat} {A : Option Addr} {l : List UInt8} {bad : Bool} (h : IsR w b A l bad) : b < w.heap.size := by
  obtain ⟨c, h, _⟩ := h
  rcases Nat.lt_or_ge b w.heap.size with hlt | hge
  · exact hlt
  · rw [Array.getElem?_eq_none hge] at h; cases h
theorem IsR.keep {F : Nat → Prop} {w w' : World} {b : Nat} {A : Option Addr} {l : List UInt8} {bad : Bool} (h : IsR w b A l bad) (hk : Kp F w w') (hf : ∀ k, WF b A k → ¬ F k) : IsR w' b A l bad := by
  have hb := h.lt
  obtain ⟨c, h1, h2, h3⟩ := h
  exact ⟨c, by rw [hk.block b hb (hf b (.inl rfl))]; exact h1, h2.keep hk (fun k e => hf k (.inr e)), h3⟩
theorem IsR.cells {w : World} {b : Nat} {A : Option Addr} {l : List UInt8} {bad : Bool} (h : IsR w b A l bad) :
    ∃ c, w.cell? ⟨b, 0, none⟩ = some (.slice A l.length c) ∧ w.cell? ⟨b, 1, none⟩ = some (.bool bad) ∧ w.frozen? ⟨b, 0, none⟩ = false ∧ w.frozen? ⟨b, 1, none⟩ = false ∧ Row w A (bvs l) ∧ ab A ≠ some b ∧ l.length ≤ c ∧ c ≤ maxLen ∧ (A = none → c = 0) := by
  obtain ⟨c, h1, h2⟩ := h
  exact ⟨c, by rw [cell_of_heap h1]; rfl, by rw [cell_of_heap h1]; rfl, frozen_of_heap h1 0, frozen_of_heap h1 1, h2⟩

set_option maxHeartbeats 400000 in
theorem rGood (b : Nat) (A : Option Addr) (l : List UInt8) (bad : Bool) (w : World) (h : IsR w b A l bad) :
    Calls Try.prog 67 #[.pointer (some ⟨b, 0, none⟩)] w fun e w' => e = .returned (.bool (!bad)) ∧ w = w' := by
  obtain ⟨c, h1, h2, h3, h4, h5⟩ := h.cells
  clear h5
  go_enter Try.func67, Try.ntmps67
  go_wp2
  go_ret
  exact ⟨rfl, rfl⟩
set_option maxHeartbeats 400000 in
theorem rGood_nil (w : World) : Calls Try.prog 67 #[.pointer none] w fun e w' => e = .returned (.bool false) ∧ w = w' := by
  go_enter Try.func67, Try.ntmps67
  go_wp2
  go_ret
  exact ⟨rfl, rfl⟩
set_option maxHeartbeats 400000 in
theorem rLeft (b : Nat) (A : Option Addr) (l : List UInt8) (bad : Bool) (w : World) (h : IsR w b A l bad) :
    Calls Try.prog 68 #[.pointer (some ⟨b, 0, none⟩)] w fun e w' => e = .returned (.int .i64 l.length) ∧ w = w' := by
  obtain ⟨c, h1, h2, h3, h4, h5⟩ := h.cells
  clear h5
  go_enter Try.func68, Try.ntmps68
  go_wp2
  go_ret
  exact ⟨rfl, rfl⟩
set_option maxHeartbeats 400000 in
theorem rLeft_nil (w : World) : Calls Try.prog 68 #[.pointer none] w fun e w' => e = .returned (.int .i64 0) ∧ w = w' := by
  go_enter Try.func68, Try.ntmps68
  go_wp2
  go_ret
  exact ⟨rfl, rfl⟩
set_option maxHeartbeats 400000 in
theorem rFail_nil (w : World) : Calls Try.prog 69 #[.pointer none] w fun e w' => e = .returned (.tuple #[]) ∧ w = w' := by
  go_enter Try.func69, Try.ntmps69
  go_wp2
  refine bodyPost_ret (results_none rfl _ _ _) rfl ?_
  exact ⟨rfl, rfl⟩
set_option maxHeartbeats 400000 in
theorem rFail (b : Nat) (A : Option Addr) (l : List UInt8) (bad : Bool) (w : World) (h : IsR w b A l bad) :
    Calls Try.prog 69 #[.pointer (some ⟨b, 0, none⟩)] w fun e w' => e = .returned (.tuple #[]) ∧ IsR w' b none [] true ∧ Kp (oneF b) w w' := by
  have hh := h
  obtain ⟨c, h1, h2, h3, h4, h5⟩ := h.cells
  clear h5
  go_enter Try.func69, Try.ntmps69
  go_wp2
  go_end0
  refine ⟨rfl, ?_, ((Kp.refl (oneF b) w).setCell (p := ⟨b, 0, none⟩) (.inl rfl) _).setCell (p := ⟨b, 1, none⟩) (.inl rfl) _⟩
  obtain ⟨c', g1, _⟩ := hh
  refine ⟨0, ?_, Row.nil _ _, by simp [ab], Nat.le_refl _, by simp [maxLen], fun _ => rfl⟩
  have := heap_setCell (heap_setCell g1 0 (.slice none 0 0)) 1 (.bool true)
  simpa using this

set_option maxHeartbeats 800000 in
theorem low_any (A : Option Addr) (n c : Nat) (l : List UInt8) (w : World) (hn : l.length = n) (h8 : n ≤ 8) (hr : Row w A (bvs l)) :
    Calls Try.prog 63 #[.slice A n c] w fun e w' => e = .returned (.int .u64 (lowN l : Nat)) ∧ w = w' := by
  go_enter Try.func63, Try.ntmps63
  go_wp2
  go_loop [3, 8] (fun y i => ∃ k : Nat, k ≤ n ∧ i = .int .i64 k ∧ y = .int .u64 (lowN (l.take k) : Nat)) (fun _ i => n - (intOf i).toNat)
  case atStart => exact ⟨0, Nat.zero_le _, rfl, by simp [lowN]⟩
  case round =>
    obtain ⟨k, hk, rfl, rfl⟩ := hrel
    by_cases hlt : k < n
    · obtain ⟨x, hx⟩ : ∃ x, x = l[k]'(by omega) := ⟨_, rfl⟩
      obtain ⟨bb, oo, rfl, hbb, hcell⟩ := hr.at_ (i := k) (by simp [hn]; exact hlt)
      have hce : w.cell? ⟨bb, oo + k, none⟩ = some (.int .u8 x.toNat) := by rw [hcell, hx]; simp [bvs, bv]
      have HX := Lib.hid hx; clear hx hcell
      have h255 := x.toNat_lt
      have hnx : lowN (l.take (k + 1)) = lowN (l.take k ++ [x]) := by rw [HX.out, List.take_add_one, List.getElem?_eq_getElem (by omega)]; rfl
      have hor := or_u64_above (l.take k) x (by rw [List.length_take]; omega)
      rw [List.length_take, Nat.min_eq_left (by omega), ← hnx] at hor
      have HO := Lib.hid hor; clear hor hnx
      go_wp2
      go_round
      case rel => exact ⟨k + 1, by omega, by go_num, by rw [HO.out]⟩
      case measure => simp [intOf]; omega
    · go_wp2
      go_ret
      rw [List.take_of_length_le (by omega)]
      exact ⟨rfl, rfl⟩

set_option maxHeartbeats 800000 in
theorem rNext_nil (n : Int) (w : World) : Calls Try.prog 62 #[.pointer none, .int .i64 n] w fun e w' => e = .returned (.tuple #[.slice none 0 0, .bool false]) ∧ w = w' := by
  go_enter Try.func62, Try.ntmps62
  go_wp2_with (first | (go_at_call 67; refine (rGood_nil _).mono ?_; rintro e w' ⟨rfl, rfl⟩) | (go_at_call 69; refine (rFail_nil _).mono ?_; rintro e w' ⟨rfl, rfl⟩))
  go_ret2
  exact ⟨rfl, rfl⟩

def NoBytes (b : Nat) (w : World) (e : Ending) (w' : World) : Prop := e = .returned (.tuple #[.slice none 0 0, .bool false]) ∧ IsR w' b none [] true ∧ Kp (oneF b) w w'

set_option maxHeartbeats 800000 in
theorem rNext_bad (b : Nat) (A : Option Addr) (l : List UInt8) (n : Int) (w : World) (h : IsR w b A l true) :
    Calls Try.prog 62 #[.pointer (some ⟨b, 0, none⟩), .int .i64 n] w (NoBytes b w) := by
  go_enter Try.func62, Try.ntmps62
  go_wp2_with (first | (go_at_call 67; refine (rGood b A l true _ h).mono ?_; rintro e w' ⟨rfl, rfl⟩) | (go_at_call 69; refine (rFail b A l true _ h).mono ?_; rintro e w' ⟨rfl, hr, hk⟩))
  go_ret2
  exact ⟨rfl, hr, hk⟩
set_option maxHeartbeats 800000 in
theorem rNext_below (b : Nat) (A : Option Addr) (l : List UInt8) (n : Int) (w : World) (h : IsR w b A l false) (hn : n < 0) :
    Calls Try.prog 62 #[.pointer (some ⟨b, 0, none⟩), .int .i64 n] w (NoBytes b w) := by
  go_enter Try.func62, Try.ntmps62
  go_wp2_with (first | (go_at_call 67; refine (rGood b A l false _ h).mono ?_; rintro e w' ⟨rfl, rfl⟩) | (go_at_call 69; refine (rFail b A l false _ h).mono ?_; rintro e w' ⟨rfl, hr, hk⟩))
  go_ret2
  exact ⟨rfl, hr, hk⟩
set_option maxHeartbeats 800000 in
theorem rNext_above (b : Nat) (A : Option Addr) (l : List UInt8) (n : Int) (w : World) (h : IsR w b A l false) (h0 : 0 ≤ n) (hn : l.length < n) :
    Calls Try.prog 62 #[.pointer (some ⟨b, 0, none⟩), .int .i64 n] w (NoBytes b w) := by
  go_enter Try.func62, Try.ntmps62
  go_wp2_with (first | (go_at_call 67; refine (rGood b A l false _ h).mono ?_; rintro e w' ⟨rfl, rfl⟩) | (go_at_call 68; refine (rLeft b A l false _ h).mono ?_; rintro e w' ⟨rfl, rfl⟩) | (go_at_call 69; refine (rFail b A l false _ h).mono ?_; rintro e w' ⟨rfl, hr, hk⟩))
  go_ret2
  exact ⟨rfl, hr, hk⟩

theorem IsR.set {w : World} {b : Nat} {A A' : Option Addr} {l l' : List UInt8} {bad : Bool} {n c' : Nat} (h : IsR w b A l bad) (hr : Row w A' (bvs l')) (hA : ab A' = ab A) (hn : l'.length = n) (hc : n ≤ c') (hm : c' ≤ maxLen) (h0 : A' = none → c' = 0) :
    IsR (w.setCell ⟨b, 0, none⟩ (.slice A' n c')) b A' l' bad ∧ Kp (oneF b) w (w.setCell ⟨b, 0, none⟩ (.slice A' n c')) := by
  subst hn
  obtain ⟨c, h1, h2, h3, _⟩ := h
  have hk : Kp (oneF b) w (w.setCell ⟨b, 0, none⟩ (.slice A' l'.length c')) := (Kp.refl (oneF b) w).setCell (p := ⟨b, 0, none⟩) (.inl rfl) _
  refine ⟨⟨c', ?_, hr.keep hk (fun k e e' => h3 (by rw [← hA, e, e'])), by rw [hA]; exact h3, hc, hm, h0⟩, hk⟩
  have := heap_setCell h1 0 (.slice A' l'.length c')
  simpa using this
theorem ab_map (A : Option Addr) (k : Nat) : ab (A.map fun x => x.add k) = ab A := by
  cases A with
  | none => rfl
  | some a => by_cases hk : k = 0 <;> simp [ab, Addr.add, hk]

def SomeBytes (b : Nat) (A : Option Addr) (l : List UInt8) (k : Nat) (w : World) (e : Ending) (w' : World) : Prop :=
  ∃ c A', e = .returned (.tuple #[.slice A k c, .bool true]) ∧ IsR w' b A' (l.drop k) false ∧ Kp (oneF b) w w' ∧ Row w' A (bvs (l.take k)) ∧ ab A' = ab A ∧ ab A ≠ some b ∧ (A = none → c = 0)
set_option maxHeartbeats 800000 in
theorem rNext_ok (b : Nat) (A : Option Addr) (l : List UInt8) (k : Nat) (w : World) (h : IsR w b A l false) (hk : k ≤ l.length) :
    Calls Try.prog 62 #[.pointer (some ⟨b, 0, none⟩), .int .i64 k] w (SomeBytes b A l k w) := by
  have hh := h
  obtain ⟨c, h1, h2, h3, h4, h5, h6, h7, h8, h9⟩ := h.cells
  have HH := Lib.hid h9; clear h9
  unfold maxLen at h8
  go_enter Try.func62, Try.ntmps62
  go_wp2_with (first | (go_at_call 67; refine (rGood b A l false _ h).mono ?_; rintro e w' ⟨rfl, rfl⟩) | (go_at_call 68; refine (rLeft b A l false _ h).mono ?_; rintro e w' ⟨rfl, rfl⟩))
  case inl =>
    go_ret2
    obtain rfl : l.length = k := by omega
    have S := hh.set (A' := A) (l' := l.drop l.length) (n := l.length - l.length) (c' := 0) (by simpa [bvs] using Row.nil w A) rfl (by simp) (by omega) (by simp [maxLen]) (fun _ => rfl)
    exact ⟨_, A, rfl, S.1, S.2, by rw [bvs, List.map_take]; exact (h5.take l.length).keep S.2 (fun k e e' => h6 (by rw [e, e'])), rfl, h6, fun e => by have := HH.out e; omega⟩
  case inr =>
    go_ret2
    have S := hh.set (A' := A.map fun x => x.add k) (l' := l.drop k) (n := l.length - k) (c' := c - k) (by have := h5.drop k; simpa [bvs] using this) (ab_map A k) (by simp) (by omega) (by simp [maxLen]; omega) (fun e => by have := HH.out (by simpa using e); omega)
    have h5' := h5.take k
    exact ⟨_, _, rfl, S.1, S.2, by rw [bvs, List.map_take]; exact h5'.keep S.2 (fun k e e' => h6 (by rw [e, e'])), ab_map A k, h6, HH.out⟩

set_option maxHeartbeats 400000 in
theorem rRead2 (A : Option Addr) (n c : Nat) (l : List UInt8) (w : World) (hn : l.length = n) (hl : n ≤ 1099511627776) (hA : A = none → c = 0) (hr : Row w A (bvs l)) :
    Calls Try.prog 55 #[.slice A n c] w fun e w' => ∃ b A', e = .returned (.pointer (some ⟨b, 0, none⟩)) ∧ IsR w' b A' l false ∧ Kp nob w w' ∧ (∀ k, WF b A' k → w.heap.size ≤ k) ∧ (∀ k, WF b A' k → k < w'.heap.size) := by
  subst hn
  go_enter Try.func55, Try.ntmps55
  go_wp2_with (go_at_call 25; refine (clone_any A l.length c l _ rfl hl hA hr).mono ?_; rintro e w' ⟨A', c', rfl, ho, hk, hf, h0⟩)
  go_ret
  have hk2 : Kp nob w' (w'.alloc (.cells #[.slice A' l.length c', .bool false] 111)) := (Kp.refl _ _).alloc _
  have hcap := ho.cap
  refine ⟨w'.heap.size, A', rfl, ⟨c', heap_alloc_new w' _, ho.row.keep0 hk2, fun e => ?_, hcap.1, hcap.2, h0⟩, hk.trans hk2 (fun _ e => e.elim), fun k e => ?_, fun k e => ?_⟩
  · have := ho.lt _ e; omega
  · rcases e with rfl | e
    · exact hk.size
    · exact hf k e
  · rcases e with rfl | e
    · simp
    · have := ho.lt _ e; simp; omega

theorem rRead (A : Option Addr) (n c : Nat) (l : List UInt8) (w : World) (hn : l.length = n) (hl : n ≤ 1099511627776) (hA : A = none → c = 0) (hr : Row w A (bvs l)) :
    Calls Try.prog 55 #[.slice A n c] w fun e w' => ∃ b A', e = .returned (.pointer (some ⟨b, 0, none⟩)) ∧ IsR w' b A' l false ∧ Kp nob w w' ∧ (∀ k, WF b A' k → w.heap.size ≤ k) :=
  (rRead2 A n c l w hn hl hA hr).mono fun _ _ ⟨b, A', h1, h2, h3, h4, _⟩ => ⟨b, A', h1, h2, h3, h4⟩

theorem rNext_int (b : Nat) (A : Option Addr) (l : List UInt8) (n : Int) (w : World) (h : IsR w b A l false) (h0 : 0 ≤ n) (hk : n ≤ l.length) :
    Calls Try.prog 62 #[.pointer (some ⟨b, 0, none⟩), .int .i64 n] w (SomeBytes b A l n.toNat w) := by
  obtain ⟨k, rfl⟩ := Int.eq_ofNat_of_zero_le h0
  exact rNext_ok b A l k w h (by omega)
/-- What is left, and whether there was a fault, in the world behind a call. -/
def RPost (w : World) (b : Nat) (A : Option Addr) (s : List UInt8 × Bool) (w' : World) : Prop := ∃ A', IsR w' b A' s.1 s.2 ∧ Kp (oneF b) w w' ∧ (ab A' = ab A ∨ ab A' = none)
theorem rNext_no (b : Nat) (A : Option Addr) (s : List UInt8 × Bool) (n : Int) (w : World) (h : IsR w b A s.1 s.2) (hc : can s n = false) :
    Calls Try.prog 62 #[.pointer (some ⟨b, 0, none⟩), .int .i64 n] w (NoBytes b w) := by
  obtain ⟨l, bad⟩ := s
  simp only [can, decide_eq_false_iff_not] at hc
  cases bad with
  | true => exact rNext_bad b A l n w h
  | false =>
    by_cases h0 : n < 0
    · exact rNext_below b A l n w h h0
    · exact rNext_above b A l n w h (by omega) (by have h3 : ¬ n ≤ (l.length : Int) := fun h => hc ⟨rfl, by omega, h⟩; omega)

set_option maxHeartbeats 800000 in
theorem rNum (b : Nat) (A : Option Addr) (s : List UInt8 × Bool) (w : World) (h : IsR w b A s.1 s.2) :
    Calls Try.prog 56 #[.pointer (some ⟨b, 0, none⟩)] w fun e w' => e = .returned (.int .i64 (sNum s).1) ∧ RPost w b A (sNum s).2 w' := by
  cases hc : can s 8 with
  | false =>
    have HC := Lib.hid hc; clear hc
    go_enter Try.func56, Try.ntmps56
    go_wp2_with (first | (go_at_call 62; refine (rNext_no b A s 8 _ h HC.out).mono ?_; rintro e w' ⟨rfl, hr, hk⟩) | (go_at_call 63; refine (low_any none 0 0 [] _ rfl (by omega) (Row.nil _ _)).mono ?_; rintro e w' ⟨rfl, rfl⟩))
    go_ret
    have e : sTake s 8 = (([], false), bust) := by simp [sTake, HC.out]
    refine ⟨?_, none, by rw [sNum, e]; exact hr, hk, .inr rfl⟩
    show Ending.returned (.int .i64 (wrap64 (lowN [] : Nat))) = _
    rw [sNum, e]
  | true =>
    have hs : s.2 = false ∧ (0 : Int) ≤ 8 ∧ (8 : Int) ≤ s.1.length := by simpa [can] using hc
    have e : sTake s 8 = ((s.1.take 8, true), (s.1.drop 8, false)) := by simp [sTake, hc]
    have E := Lib.hid e; clear e hc
    obtain ⟨hs1, _, hs3⟩ := hs
    rw [hs1] at h
    clear hs1
    have hlen : (s.1.take 8).length = 8 := by rw [List.length_take]; omega
    have HL := Lib.hid hlen; clear hlen
    go_enter Try.func56, Try.ntmps56
    go_wp2_with (first | (go_at_call 62; refine (rNext_int b A s.1 8 _ h (by omega) hs3).mono ?_; rintro e w1 ⟨c, A1, rfl, hr, hk, hrow, hA1, hA2, h0⟩) | (go_at_call 63; refine (low_any A 8 c (s.1.take 8) _ HL.out (by omega) hrow).mono ?_; rintro e w' ⟨rfl, rfl⟩))
    go_ret
    refine ⟨?_, A1, by rw [sNum, E.out]; exact hr, hk, .inl hA1⟩
    show Ending.returned (.int .i64 (wrap64 (lowN (s.1.take 8) : Nat))) = _
    rw [sNum, E.out]

theorem RPost.size {w w' : World} {b : Nat} {A : Option Addr} {s : List UInt8 × Bool} (h : RPost w b A s w') : w.heap.size ≤ w'.heap.size := by
  obtain ⟨_, _, h, _⟩ := h; exact h.size
theorem RPost.bust {w w1 w' : World} {b : Nat} {A : Option Addr} {s : List UInt8 × Bool} (h : RPost w b A s w1) (h1 : IsR w' b none [] true) (h2 : Kp (oneF b) w1 w') : RPost w b A bust w' := by
  obtain ⟨A1, _, hk, _⟩ := h
  exact ⟨none, h1, hk.trans h2 (fun _ e => .inl e), .inr rfl⟩
end Go.Proofs.Ytmmpmncioifeoaa
namespace Go.Proofs.Ytmmpmncioifeoaa
set_option linter.unusedVariables false
set_option linter.unusedSimpArgs false
open Go Go.RowKit Kit

theorem IsW.alloc {w : World} {b : Nat} {A : Option Addr} {l : List UInt8} (h : IsW w b A l) (o : Obj) : IsW (w.alloc o) b A l := h.keep ((Kp.refl nob _).alloc o) (fun _ _ e => e)
theorem IsR.alloc {w : World} {b : Nat} {A : Option Addr} {l : List UInt8} {bad : Bool} (h : IsR w b A l bad) (o : Obj) : IsR (w.alloc o) b A l bad := h.keep ((Kp.refl nob _).alloc o) (fun _ _ e => e)
theorem IsW.apart {w : World} {b : Nat} {A : Option Addr} {l : List UInt8} (h : IsW w b A l) : ∀ k, ab (some (⟨w.heap.size, 0, none⟩ : Addr)) = some k → ¬ WF b A k := by
  intro k hk e; cases hk; exact absurd (h.fLt _ e) (Nat.lt_irrefl _)
theorem isW_new (w : World) : IsW (w.alloc (.cells #[.slice none 0 0] 65)) w.heap.size none [] :=
  ⟨0, heap_alloc_new w _, Own.nil _ _, by simp [ab]⟩
theorem WPost.later {w : World} {b : Nat} {A : Option Addr} {l : List UInt8} {o : Obj} {w' : World} (h : WPost (w.alloc o) b A l w') : WPost w b A l w' := by
  obtain ⟨A', h1, h2, h3⟩ := h
  exact ⟨A', h1, ((Kp.refl nob w).alloc o |>.nob (WF b A)).trans h2 (fun _ e => .inl e), (Grew.refl A w.heap.size).trans h3 (by simp)⟩
theorem WPost.keep {F : Nat → Prop} {w w1 w' : World} {b : Nat} {A : Option Addr} {l : List UInt8} (h : WPost w1 b A l w') (hk : Kp F w w1) (hF : ∀ k, F k → WF b A k ∨ w.heap.size ≤ k) : WPost w b A l w' := by
  obtain ⟨A', h1, h2, h3⟩ := h
  refine ⟨A', h1, ⟨h2.os.trans hk.os, h2.tape.trans hk.tape, h2.output.trans hk.output, Nat.le_trans hk.size h2.size, fun k hk1 hk2 => ?_⟩, (Grew.refl A w.heap.size).trans h3 hk.size⟩
  have := hk.size
  exact (h2.block k (by omega) hk2).trans (hk.block k hk1 (fun e => (hF k e).elim hk2 (by omega)))

theorem WF.ge {b N : Nat} {A : Option Addr} (hb : N ≤ b) (hA : ∀ k, ab A = some k → N ≤ k) : ∀ k, WF b A k → N ≤ k := by
  rintro k (rfl | h)
  · exact hb
  · exact hA k h
theorem wNum1 (b : Nat) (A : Option Addr) (l : List UInt8) (x : Int) (w : World) (t : TypeId) (H : Nat) (hH : w.heap.size = H) (h : IsW w b A l) (hl : l.length + 8 ≤ 1099511627776) :
    Calls Try.prog 22 #[.pointer (some ⟨b, 0, none⟩), .slice (some ⟨H, 0, none⟩) 1 1] (w.alloc (.cells #[.int .i64 x] t)) fun e w' => e = .returned (.tuple #[]) ∧ WPost w b A (l ++ num8 x) w' := by
  subst hH
  refine (wNum b A l (some ⟨w.heap.size, 0, none⟩) 1 1 [x] _ (h.alloc _) rfl (row_one _ _ _) h.apart (by omega) (by omega)).mono ?_
  rintro e w' ⟨rfl, hp⟩
  exact ⟨rfl, by simpa using hp.later⟩
end Go.Proofs.Ytmmpmncioifeoaa
