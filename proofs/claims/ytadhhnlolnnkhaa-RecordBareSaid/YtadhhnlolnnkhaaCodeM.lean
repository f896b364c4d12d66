/- Contracts of the document's own reader. -/
import Derived.Test.YtadhhnlolnnkhaaCodeN
namespace Go.Proofs.Ytadhhnlolnnkhaa
open Go Go.RowKit Kit

/-- The document's reader at block b. -/
def IsM (w : World) (b : Nat) (s : List UInt8 × Bool) : Prop := w.heap[b]? = some (.cells #[.string (str s.1), .bool s.2] 66 (0, 0)) ∧ s.1.length ≤ 1099511627776
theorem IsM.lt {w : World} {b : Nat} {s : List UInt8 × Bool} (h : IsM w b s) : b < w.heap.size := by
  rcases Nat.lt_or_ge b w.heap.size with hlt | hge
  · exact hlt
  · have := h.1; rw [Array.getElem?_eq_none hge] at this; cases this
theorem IsM.keep {F : Nat → Prop} {w w' : World} {b : Nat} {s : List UInt8 × Bool} (h : IsM w b s) (hk : Kp F w w') (hf : ¬ F b) : IsM w' b s :=
  ⟨by rw [hk.block b h.lt hf]; exact h.1, h.2⟩
theorem IsM.cells {w : World} {b : Nat} {s : List UInt8 × Bool} (h : IsM w b s) : w.cell? ⟨b, 0, none⟩ = some (.string (str s.1)) ∧ w.cell? ⟨b, 1, none⟩ = some (.bool s.2) ∧ w.frozen? ⟨b, 0, none⟩ = false ∧ w.frozen? ⟨b, 1, none⟩ = false :=
  ⟨by rw [cell_of_heap h.1]; rfl, by rw [cell_of_heap h.1]; rfl, frozen_of_heap h.1 0, frozen_of_heap h.1 1⟩
theorem IsM.set {w : World} {b : Nat} {s : List UInt8 × Bool} (h : IsM w b s) (l : List UInt8) (hl : l.length ≤ 1099511627776) : IsM (w.setCell ⟨b, 0, none⟩ (.string (str l))) b (l, s.2) ∧ Kp (oneF b) w (w.setCell ⟨b, 0, none⟩ (.string (str l))) := by
  refine ⟨⟨?_, hl⟩, (Kp.refl (oneF b) w).setCell (p := ⟨b, 0, none⟩) (.inl rfl) _⟩
  have := heap_setCell h.1 0 (.string (str l))
  simpa using this
theorem IsM.bust {w : World} {b : Nat} {s : List UInt8 × Bool} (h : IsM w b s) : IsM ((w.setCell ⟨b, 1, none⟩ (.bool true)).setCell ⟨b, 0, none⟩ (.string ⟨#[]⟩)) b bust ∧ Kp (oneF b) w ((w.setCell ⟨b, 1, none⟩ (.bool true)).setCell ⟨b, 0, none⟩ (.string ⟨#[]⟩)) := by
  refine ⟨⟨?_, by simp [Go.Proofs.Ytadhhnlolnnkhaa.bust]⟩, ((Kp.refl (oneF b) w).setCell (p := ⟨b, 1, none⟩) (.inl rfl) _).setCell (p := ⟨b, 0, none⟩) (.inl rfl) _⟩
  have := heap_setCell (heap_setCell h.1 1 (.bool true)) 0 (.string ⟨#[]⟩)
  simpa [Go.Proofs.Ytadhhnlolnnkhaa.bust, str] using this
theorem str_extract (l : List UInt8) (a b : Nat) : (str l).extract a b = str ((l.drop a).take (b - a)) := by
  apply ByteArray.ext
  rw [ByteArray.data_extract]
  simp [str]

def MPost (w : World) (b : Nat) (s : List UInt8 × Bool) (w' : World) : Prop := IsM w' b s ∧ Kp (oneF b) w w'

set_option maxHeartbeats 1000000 in
theorem mTake (b : Nat) (s : List UInt8 × Bool) (n : Int) (w : World) (h : IsM w b s) :
    Calls Try.prog 32 #[.pointer (some ⟨b, 0, none⟩), .int .i64 n] w fun e w' => e = .returned (.tuple #[.string (str (sTake s n).1.1), .bool (sTake s n).1.2]) ∧ MPost w b (sTake s n).2 w' := by
  have hh := h
  obtain ⟨h1, h2, h3, h4⟩ := h.cells
  have hl := h.2
  obtain ⟨l, bad⟩ := s
  simp only at h1 h2 hl
  have HH := Lib.hid hh; clear hh h
  cases bad with
  | true =>
    have e : sTake (l, true) n = (([], false), bust) := by simp [sTake, can]
    rw [e]
    go_enter Try.func32, Try.ntmps32
    go_wp2
    go_ret2
    exact ⟨rfl, HH.out.bust⟩
  | false =>
    by_cases h0 : n < 0
    · have e : sTake (l, false) n = (([], false), bust) := by simp [sTake, can]; omega
      rw [e]
      have hb : decide (n < 0) = true := decide_eq_true h0
      go_enter Try.func32, Try.ntmps32
      go_wp2
      go_ret2
      exact ⟨rfl, HH.out.bust⟩
    · by_cases h5 : (l.length : Int) < n
      · have e : sTake (l, false) n = (([], false), bust) := by simp [sTake, can]; omega
        rw [e]
        have hb : decide (n < 0) = false := decide_eq_false h0
        have hb2 : decide ((l.length : Int) < n) = true := decide_eq_true h5
        go_enter Try.func32, Try.ntmps32
        go_wp2
        go_ret2
        exact ⟨rfl, HH.out.bust⟩
      · obtain ⟨k, rfl⟩ := Int.eq_ofNat_of_zero_le (by omega : 0 ≤ n)
        have hk : k ≤ l.length := by omega
        have e : sTake (l, false) (k : Int) = ((l.take k, true), (l.drop k, false)) := by simp [sTake, can, hk]
        rw [e]
        clear h0 h5 e
        go_enter Try.func32, Try.ntmps32
        go_wp2
        go_ret2
        have e1 : (str l).extract 0 k = str (l.take k) := by rw [str_extract]; simp
        have e2 : (str l).extract k l.length = str (l.drop k) := by rw [str_extract, List.take_of_length_le (by simp)]
        rw [e1, e2]
        exact ⟨rfl, HH.out.set (l.drop k) (by simp; omega)⟩

theorem sTake_ok (s : List UInt8 × Bool) (n : Int) (h : (sTake s n).1.2 = true) : ((sTake s n).1.1.length : Int) = n ∧ (sTake s n).2.2 = false := by
  unfold sTake at *
  split at h <;> rename_i hc
  · rw [if_pos hc]
    simp only [can, decide_eq_true_eq] at hc
    refine ⟨?_, rfl⟩
    simp only [List.length_take]; omega
  · cases h
theorem sTake_not (s : List UInt8 × Bool) (n : Int) (h : (sTake s n).1.2 = false) : sTake s n = (([], false), bust) := by
  unfold sTake at *
  split at h <;> rename_i hc
  · cases h
  · rw [if_neg hc]
theorem wrap_none : wrap64 (lowN [] : Nat) = 0 := by decide +kernel
theorem lowN_drop (t : List UInt8) (k : Nat) (h : k < t.length) : lowN (t.drop k) = t[k].toNat + 256 * lowN (t.drop (k + 1)) := by
  rw [List.drop_eq_getElem_cons h]; rfl

set_option maxHeartbeats 1000000 in
theorem mNum (b : Nat) (s : List UInt8 × Bool) (w : World) (h : IsM w b s) :
    Calls Try.prog 33 #[.pointer (some ⟨b, 0, none⟩)] w fun e w' => e = .returned (.int .i64 (sNum s).1) ∧ MPost w b (sNum s).2 w' := by
  have htk := mTake b s 8 w h
  cases hok : (sTake s 8).1.2 with
  | false =>
    have e := sTake_not s 8 hok
    have e2 : sNum s = (0, bust) := by rw [sNum, e]; exact Prod.ext wrap_none rfl
    rw [e2]
    rw [e] at htk
    go_enter Try.func33, Try.ntmps33
    clear e e2 hok
    go_wp2_with fail
    refine htk.mono ?_
    rintro e w1 ⟨rfl, h1⟩
    go_wp2
    refine wp_loop_rounds 1 ?_
    rw [rounds_succ]
    go_wp2
    go_ret
    exact ⟨rfl, h1⟩
  | true =>
    have hl := (sTake_ok s 8 hok).1
    rw [hok] at htk
    have e2 : sNum s = (wrap64 (lowN (sTake s 8).1.1 : Nat), (sTake s 8).2) := rfl
    rw [e2]
    obtain ⟨t, ht⟩ : ∃ t, t = (sTake s 8).1.1 := ⟨_, rfl⟩
    rw [← ht] at htk hl ⊢
    have hl8 : t.length = 8 := by omega
    have HT := Lib.hid ht
    clear e2 hok ht hl
    go_enter Try.func33, Try.ntmps33
    go_wp2_with fail
    refine htk.mono ?_
    rintro e w1 ⟨rfl, h1⟩
    clear htk
    go_wp2
    go_loop [5, 6] (fun y i => ∃ k : Nat, k ≤ 8 ∧ i = .int .i64 ((k : Int) - 1) ∧ y = .int .u64 (lowN (t.drop k) : Nat)) (fun _ i => (intOf i + 1).toNat)
    case atStart => exact ⟨8, by omega, rfl, by rw [List.drop_of_length_le (by omega)]; rfl⟩
    case round =>
      obtain ⟨k, hk, rfl, rfl⟩ := hrel
      by_cases hlt : 0 < k
      · obtain ⟨j, rfl⟩ : ∃ j, k = j + 1 := ⟨k - 1, by omega⟩
        have hj : j < t.length := by omega
        have hdr := lowN_drop t j hj
        have hb := lowN_lt (t.drop (j + 1))
        have hb2 : 256 ^ (t.drop (j + 1)).length ≤ 256 ^ 7 := Nat.pow_le_pow_right (by omega) (by rw [List.length_drop]; omega)
        have hb3 : lowN (t.drop (j + 1)) < 72057594037927936 := Nat.lt_of_lt_of_le hb hb2
        have hx := t[j].toNat_lt
        have HD := Lib.hid hdr; have HB3 := Lib.hid hb3; have HL8 := Lib.hid hl8
        clear hdr hb hb2 hb3 hx
        have hj7 : j < 8 := by omega
        clear hl8
        go_wp2
        refine ⟨⟨j, by omega, rfl, ?_⟩, by simp [intOf]⟩
        have h3 := HB3.out
        have hx := t[j].toNat_lt
        rw [HD.out]
        have e3 : ∀ hb, ((str t)[j]'hb) = t[j] := fun _ => rfl
        rw [e3]
        obtain ⟨y, hy⟩ : ∃ y, y = t[j].toNat := ⟨_, rfl⟩
        rw [← hy] at hx ⊢
        rw [IntKind.wrap_u64, IntKind.wrap_u64, IntKind.wrap_u64]
        congr 1
        omega
      · obtain rfl : k = 0 := by omega
        go_wp2
        go_ret
        exact ⟨rfl, h1⟩

theorem MPost.bust {w w1 w' : World} {b : Nat} {s : List UInt8 × Bool} (h : MPost w b s w1) (h2 : MPost w1 b bust w') : MPost w b bust w' :=
  ⟨h2.1, h.2.trans h2.2 (fun _ e => .inl e)⟩
theorem MPost.then_ {w w1 w' : World} {b : Nat} {s s' : List UInt8 × Bool} (h : MPost w b s w1) (h2 : MPost w1 b s' w') : MPost w b s' w' :=
  ⟨h2.1, h.2.trans h2.2 (fun _ e => .inl e)⟩
theorem sTake_neg (s : List UInt8 × Bool) : sTake s (-1) = (([], false), bust) := by
  have : can s (-1) = false := by simp [can]
  simp [sTake, this]

set_option maxHeartbeats 400000 in
theorem mEnd (b : Nat) (s : List UInt8 × Bool) (w : World) (h : IsM w b s) :
    Calls Try.prog 35 #[.pointer (some ⟨b, 0, none⟩)] w fun e w' => e = .returned (.bool (!s.2 && s.1.isEmpty)) ∧ w = w' := by
  obtain ⟨h1, h2, h3, h4⟩ := h.cells
  obtain ⟨l, bad⟩ := s
  simp only at h1 h2
  clear h
  cases bad with
  | true =>
    go_enter Try.func35, Try.ntmps35
    go_wp2
    go_ret
    exact ⟨rfl, rfl⟩
  | false =>
    go_enter Try.func35, Try.ntmps35
    go_wp2
    go_ret
    refine ⟨?_, rfl⟩
    show Ending.returned (.bool (str l).toList.isEmpty) = _
    rw [str_toList]
    rfl
end Go.Proofs.Ytadhhnlolnnkhaa
