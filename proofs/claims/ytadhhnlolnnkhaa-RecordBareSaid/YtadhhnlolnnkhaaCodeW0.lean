/- Contracts of bytes.Clone and of the writer of package code: numbers and bytes. -/
import Derived.Test.YtadhhnlolnnkhaaRows
import Derived.Test.YtadhhnlolnnkhaaCodeN0
import Derived.Lib.LazyBuf
namespace Go.Proofs.Ytadhhnlolnnkhaa
set_option linter.unusedVariables false
set_option linter.unusedSimpArgs false
open Go Go.RowKit Kit

theorem u8_info : (Try.prog.info? 5).map (fun i => (i.zero, i.size, i.bytes)) = some (some (.int .u8 0), 1, 1) := by kernel_rfl

theorem eq_nil (w : World) (A : Option Addr) (n c : Nat) : (binOp .eql 27 (.slice A n c) (.slice none 0 0)).run Try.prog w = .ok (.bool A.isNone) w :=
  Lib.run_eql_slice_nil w 27 5 A n c 0 0 u8_under

set_option maxHeartbeats 400000 in
theorem clone_nil (w : World) : Calls Try.prog 37 #[.slice none 0 0] w fun e w' => e = .returned (.slice none 0 0) ∧ w = w' := by
  have hq := eq_nil
  go_enter Try.func37, Try.ntmps37
  go_wp2
  go_ret
  exact ⟨rfl, rfl⟩

set_option maxHeartbeats 400000 in
theorem clone_some (a : Addr) (n c : Nat) (l : List UInt8) (w : World) (hn : l.length = n) (hl : n ≤ 1099511627776) (hr : Row w (some a) (bvs l)) :
    Calls Try.prog 37 #[.slice (some a) n c] w fun e w' => ∃ A' c', e = .returned (.slice A' n c') ∧ Own 5 w' A' n c' (bvs l) ∧ Kp nob w w' ∧ (∀ k, ab A' = some k → w.heap.size ≤ k) := by
  obtain ⟨i0, hi, hz0, hz1, hz2⟩ := info_parts u8_info
  have hr1 : Row (w.alloc (.cells #[] 5)) (some a) (bvs l) := hr.keep0 ((Kp.refl _ _).alloc _)
  have ho : Own 5 (w.alloc (.cells #[] 5)) (some ⟨w.heap.size, 0, none⟩) 0 0 [] := World.ownsRow_made w #[] 0 (Nat.zero_le _) (by simp [maxLen]) rfl
  have hq := eq_nil
  go_enter Try.func37, Try.ntmps37
  go_wp2_with (at_builtin; refine wpList_appR _ rfl (.tmp 5) (.tmp 6) 27 rfl 5 i0 (.int .u8 0) 1 u8_under hi hz0 hz1 hz2 rfl _ 0 0 [] rfl ho _ n c (bvs l) rfl (fun h => by cases h) (by simp [hn]) hr1 (bvs_one l) (by omega) (by omega) ?_)
  intro A' c' w' hown hg hab
  go_wp2
  go_ret
  exact ⟨A', c', rfl, by simpa using hown, ((Kp.refl _ _).alloc _).grown hg (fun k hk => .inr (by cases hk; exact Nat.le_refl _)), fun k hk => by rcases hab with h | h <;> rw [h] at hk <;> cases hk <;> simp⟩

set_option maxHeartbeats 800000 in
theorem appendLow_any (A : Option Addr) (n c : Nat) (l : List UInt8) (x sz : Nat) (w : World) (hown : Own 5 w A n c (bvs l)) (_hx : x < 18446744073709551616) (hsz : sz ≤ 8) (hl : n ≤ 1099511627776) :
    Calls Try.prog 36 #[.slice A n c, .int .u64 x, .int .i64 sz] w fun e w' => ∃ A' c', e = .returned (.slice A' (n + sz) c') ∧ Own 5 w' A' (n + sz) c' (bvs (l ++ le sz x)) ∧ Kp (rowF A) w w' ∧ Grew A A' w.heap.size := by
  obtain ⟨i0, hi, hz0, hz1, hz2⟩ := info_parts u8_info
  go_enter Try.func36, Try.ntmps36
  go_wp2
  go_loopw [0, 1, 8] (fun b y i wr => ∃ (k : Nat) (A' : Option Addr) (c' : Nat), k ≤ sz ∧ i = .int .i64 k ∧ b = .slice A' (n + k) c' ∧ y = .int .u64 (x / 256 ^ k : Nat) ∧ Own 5 wr A' (n + k) c' (bvs (l ++ le k x)) ∧ Kp (rowF A) w wr ∧ Grew A A' w.heap.size)
    (fun _ _ i _ => sz - (intOf i).toNat)
  case atStart => exact ⟨0, A, c, Nat.zero_le _, rfl, rfl, by simp, by simpa [le] using hown, Kp.refl _ _, Grew.refl _ _⟩
  case round =>
    obtain ⟨k, A', c', hk, rfl, rfl, rfl, ho, hkp, hgr⟩ := hrel
    by_cases hlt : k < sz
    · go_wp2_with (at_builtin; refine wpList_appR _ rfl (.tmp 10) (.tmp 13) 27 rfl 5 i0 (.int .u8 0) 1 u8_under hi hz0 hz1 hz2 rfl A' (n + k) c' (bvs (l ++ le k x)) rfl ?c0 (some ⟨wr.heap.size, 0, none⟩) 1 1 [bv (UInt8.ofNat (x / 256 ^ k))] rfl (fun h => by cases h) rfl ?c1 ?c2 (by omega) (by omega) ?_)
      case c0 => exact ho.keep ((Kp.refl nob _).alloc _) (fun _ _ e => e)
      case c1 => rw [bv_ofNat]; simpa using row_one wr _ _
      case c2 => intro u hu; simp at hu; subst hu; rfl
      intro A'' c'' w' ho2 hg2 hab2
      go_wp2
      go_roundw
      case rel =>
        refine ⟨k + 1, A'', c'', by omega, by go_num, rfl, ?_, ?_, ?_, ?_⟩
        · rw [Nat.pow_succ, ← Nat.div_div_eq_div_mul]; simp
        · rw [le_snoc, ← List.append_assoc, bvs_append]; exact ho2
        · exact (hkp.alloc _).grown hg2 (fun i hi => hgr.sub i hi)
        · exact hgr.trans (.of hab2 (by have := hkp.size; omega)) (Nat.le_refl _)
      case measure => simp [intOf]; omega
    · go_wp2
      go_ret
      obtain rfl : k = sz := by omega
      exact ⟨A', c', rfl, ho, hkp, hgr⟩

theorem appendLow_int (A : Option Addr) (n c : Nat) (l : List UInt8) (x : Int) (sz : Nat) (w : World) (hown : Own 5 w A n c (bvs l)) (hx0 : 0 ≤ x) (_hx : x < 18446744073709551616) (hsz : sz ≤ 8) (hl : n ≤ 1099511627776) :
    Calls Try.prog 36 #[.slice A n c, .int .u64 x, .int .i64 sz] w fun e w' => ∃ A' c', e = .returned (.slice A' (n + sz) c') ∧ Own 5 w' A' (n + sz) c' (bvs (l ++ le sz x.toNat)) ∧ Kp (rowF A) w w' ∧ Grew A A' w.heap.size := by
  obtain ⟨y, rfl⟩ := Int.eq_ofNat_of_zero_le hx0
  exact appendLow_any A n c l y sz w hown (by omega) hsz hl

/-- A writer at block b, whose bytes lie at A. -/
def IsW (w : World) (b : Nat) (A : Option Addr) (l : List UInt8) : Prop :=
  ∃ c, w.heap[b]? = some (.cells #[.slice A l.length c] 44 (0, 0)) ∧ Own 5 w A l.length c (bvs l) ∧ ab A ≠ some b
def WF (b : Nat) (A : Option Addr) : Nat → Prop := fun k => k = b ∨ ab A = some k
theorem IsW.lt {w : World} {b : Nat} {A : Option Addr} {l : List UInt8} (h : IsW w b A l) : b < w.heap.size := by
  obtain ⟨c, h, _⟩ := h
  rcases Nat.lt_or_ge b w.heap.size with hlt | hge
  · exact hlt
  · rw [Array.getElem?_eq_none hge] at h; cases h
theorem IsW.row {w : World} {b : Nat} {A : Option Addr} {l : List UInt8} (h : IsW w b A l) : Row w A (bvs l) := by
  obtain ⟨c, _, h, _⟩ := h; exact h.row
theorem IsW.keep {F : Nat → Prop} {w w' : World} {b : Nat} {A : Option Addr} {l : List UInt8} (h : IsW w b A l) (hk : Kp F w w') (hf : ∀ k, WF b A k → ¬ F k) : IsW w' b A l := by
  have hb := h.lt
  obtain ⟨c, h1, h2, h3⟩ := h
  exact ⟨c, by rw [hk.block b hb (hf b (.inl rfl))]; exact h1, h2.keep hk (fun k e => hf k (.inr e)), h3⟩
theorem IsW.fLt {w : World} {b : Nat} {A : Option Addr} {l : List UInt8} (h : IsW w b A l) : ∀ k, WF b A k → k < w.heap.size := by
  intro k hk
  rcases hk with rfl | hk
  · exact h.lt
  · obtain ⟨c, _, h2, _⟩ := h; exact h2.lt k hk
theorem IsW.put {w w1 : World} {b : Nat} {A A' : Option Addr} {l l' : List UInt8} {n c' : Nat} (h : IsW w b A l) (hk : Kp (rowF A) w w1) (ho : Own 5 w1 A' n c' (bvs l')) (hg : Grew A A' w.heap.size) :
    IsW (w1.setCell ⟨b, 0, none⟩ (.slice A' n c')) b A' l' ∧ Kp (WF b A) w (w1.setCell ⟨b, 0, none⟩ (.slice A' n c')) ∧ Own 5 (w1.setCell ⟨b, 0, none⟩ (.slice A' n c')) A' n c' (bvs l') := by
  have hb := h.lt
  obtain ⟨c, h1, h2, h3⟩ := h
  obtain rfl : l'.length = n := by simpa using ho.len
  have hne : ab A' ≠ some b := by
    rcases hg with hg | ⟨k, hg, hk⟩
    · rw [hg]; exact h3
    · rw [hg]; intro e; cases e; omega
  have ho' := ho.keep (F := fun k => k = b) ((Kp.refl (fun k => k = b) w1).setCell (p := ⟨b, 0, none⟩) (.inl rfl) (.slice A' l'.length c')) (fun k e e' => hne (by rw [e, e']))
  refine ⟨⟨c', ?_, ho', hne⟩, (hk.mono (fun _ _ e => .inr e)).setCell (.inl (.inl rfl)) _, ho'⟩
  have := heap_setCell (hk.block b hb (by unfold rowF; exact h3) ▸ h1) 0 (.slice A' l'.length c')
  simpa using this

def WPost (w : World) (b : Nat) (A : Option Addr) (l' : List UInt8) (w' : World) : Prop := ∃ A', IsW w' b A' l' ∧ Kp (WF b A) w w' ∧ Grew A A' w.heap.size

set_option maxHeartbeats 400000 in
theorem wByte (b : Nat) (A : Option Addr) (l : List UInt8) (B : Option Addr) (m d : Nat) (ml : List UInt8) (w : World) (h : IsW w b A l) (hB : B = none → d = 0) (hm : ml.length = m) (hr : Row w B (bvs ml)) (hl : l.length + m ≤ 1099511627776) :
    Calls Try.prog 18 #[.pointer (some ⟨b, 0, none⟩), .slice B m d] w fun e w' => e = .returned (.tuple #[]) ∧ WPost w b A (l ++ ml) w' := by
  obtain ⟨i0, hi, hz0, hz1, hz2⟩ := info_parts u8_info
  have H := h
  have hb := h.lt
  obtain ⟨c, h1, h2, h3⟩ := h
  have hc : w.cell? ⟨b, 0, none⟩ = some (.slice A l.length c) := by rw [cell_of_heap h1]; rfl
  have H1 := Lib.hid h1; clear h1
  go_enter Try.func18, Try.ntmps18
  go_wp2_with (at_builtin; refine wpList_appR _ rfl (.tmp 10) (.tmp 11) 27 rfl 5 i0 (.int .u8 0) 1 u8_under hi hz0 hz1 hz2 rfl A l.length c (bvs l) rfl h2 B m d (bvs ml) rfl hB (by simp [hm]) hr (bvs_one _) (by omega) (by omega) ?_)
  intro A' c' w1 ho hg hab
  have hk : Kp (rowF A) w w1 := (Kp.refl _ _).grown hg (fun k e => .inl e)
  have hc1 : w1.cell? ⟨b, 0, none⟩ = some (.slice A l.length c) := (hk.cell (p := ⟨b, 0, none⟩) hb h3).trans hc
  have hf1 : w1.frozen? ⟨b, 0, none⟩ = false := (hk.frozen (p := ⟨b, 0, none⟩) hb h3).trans (frozen_of_heap H1.out 0)
  go_wp2
  go_end0
  have := H.put hk (l' := l ++ ml) (by rw [bvs_append]; exact ho) (.of hab (Nat.le_refl _))
  exact ⟨rfl, A', this.1, this.2.1, .of hab (Nat.le_refl _)⟩

theorem flat_snoc {α : Type} (f : α → List UInt8) (ns : List α) (k : Nat) (h : k < ns.length) : (ns.take (k + 1)).flatMap f = (ns.take k).flatMap f ++ f ns[k] := by
  rw [List.take_add_one, List.getElem?_eq_getElem h, List.flatMap_append]; simp only [Option.toList_some, List.flatMap_cons, List.flatMap_nil, List.append_nil]
theorem nums_length (ns : List Int) : (ns.flatMap num8).length = 8 * ns.length := by
  induction ns with
  | nil => rfl
  | cons n ns ih => simp [ih]; omega
def ivs (ns : List Int) : List Value := ns.map (.int .i64)
@[simp] theorem ivs_length (ns : List Int) : (ivs ns).length = ns.length := by simp [ivs]

set_option maxHeartbeats 800000 in
theorem wNum (b : Nat) (A : Option Addr) (l : List UInt8) (B : Option Addr) (m d : Nat) (ns : List Int) (w : World) (h : IsW w b A l) (hm : ns.length = m) (hr : Row w B (ivs ns)) (hB : ∀ k, ab B = some k → ¬ WF b A k) (hmm : m ≤ 1099511627776) (hl : l.length + 8 * m ≤ 1099511627776) :
    Calls Try.prog 19 #[.pointer (some ⟨b, 0, none⟩), .slice B m d] w fun e w' => e = .returned (.tuple #[]) ∧ WPost w b A (l ++ ns.flatMap num8) w' := by
  go_enter Try.func19, Try.ntmps19
  go_wp2
  go_loopw [10] (fun i wr => ∃ (k : Nat) (A' : Option Addr), k ≤ m ∧ i = .int .i64 k ∧ IsW wr b A' (l ++ (ns.take k).flatMap num8) ∧ Kp (WF b A) w wr ∧ Grew A A' w.heap.size)
    (fun i _ => m - (intOf i).toNat)
  case atStart => exact ⟨0, A, Nat.zero_le _, rfl, by simpa using h, Kp.refl _ _, Grew.refl _ _⟩
  case round =>
    obtain ⟨k, A', hk, rfl, ho, hkp, hgr⟩ := hrel
    by_cases hlt : k < m
    · obtain ⟨x, hx⟩ : ∃ x, x = ns[k]'(by omega) := ⟨_, rfl⟩
      obtain ⟨bb, oo, rfl, hbb, hcell⟩ := hr.at_ (i := k) (by simp [hm]; exact hlt)
      have hce : wr.cell? ⟨bb, oo + k, none⟩ = some (.int .i64 x) := by rw [hkp.cell (p := ⟨bb, oo + k, none⟩) hbb (hB bb rfl), hcell, hx]; simp [ivs]
      have HX := Lib.hid hx; clear hx hcell
      have H := ho
      have hb := ho.lt
      obtain ⟨c, h1, h2, h3⟩ := ho
      have hc : wr.cell? ⟨b, 0, none⟩ = some (.slice A' (l ++ (ns.take k).flatMap num8).length c) := by rw [cell_of_heap h1]; rfl
      have hlen : (l ++ (ns.take k).flatMap num8).length = l.length + 8 * k := by rw [List.length_append, nums_length, List.length_take, hm, Nat.min_eq_left hk]
      rw [hlen] at hc h2
      have H1 := Lib.hid h1; clear h1
      have HL := Lib.hid hlen; clear hlen
      have hx0 : 0 ≤ x % 18446744073709551616 := by omega
      have hx1 : x % 18446744073709551616 < 18446744073709551616 := by omega
      go_wp2_with fail
      refine (appendLow_int A' (l.length + 8 * k) c _ _ 8 _ h2 hx0 hx1 (by omega) (by omega)).mono ?_
      rintro e w1 ⟨A'', c'', rfl, ho1, hk1, hg1⟩
      have hb1 : w1.heap[b]? = wr.heap[b]? := hk1.block b hb h3
      have hc1 : w1.cell? ⟨b, 0, none⟩ = some (.slice A' (l.length + 8 * k) c) := (hk1.cell (p := ⟨b, 0, none⟩) hb h3).trans hc
      have hf1 : w1.frozen? ⟨b, 0, none⟩ = false := (hk1.frozen (p := ⟨b, 0, none⟩) hb h3).trans (frozen_of_heap H1.out 0)
      have HB := Lib.hid hb1; clear hb1
      have R := H.put hk1 ho1 hg1
      go_wp2
      go_roundw
      case rel =>
        refine ⟨k + 1, A'', by omega, by go_num, ?_, hkp.trans R.2.1 (fun i hi => ?_), hgr.trans hg1 hkp.size⟩
        · have := R.1
          rwa [flat_snoc num8 ns k (by omega), ← List.append_assoc, ← HX.out]
        · rcases hi with rfl | hi
          · exact .inl (.inl rfl)
          · exact (hgr.sub i hi).imp_left .inr
      case measure => simp [intOf]; omega
    · go_wp2
      go_end0
      obtain rfl : k = m := by omega
      rw [List.take_of_length_le (by omega)] at ho
      exact ⟨rfl, A', ho, hkp, hgr⟩
end Go.Proofs.Ytadhhnlolnnkhaa
