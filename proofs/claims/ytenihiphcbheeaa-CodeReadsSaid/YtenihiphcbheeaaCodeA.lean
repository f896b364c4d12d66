/- Writing one thing at a time; the statements' own look at the document's example ('alive'). -/
import Derived.Test.YtenihiphcbheeaaCodeR
import Derived.Deep.RegionWith
import Derived.Deep.QuietTactic
import Derived.BigQuiet
namespace Go.Proofs.Ytenihiphcbheeaa
open Go Go.RowKit Kit

theorem IsW.alloc {w : World} {b : Nat} {A : Option Addr} {l : List UInt8} (h : IsW w b A l) (o : Obj) : IsW (w.alloc o) b A l := h.keep ((Kp.refl nob _).alloc o) (fun _ _ e => e)
theorem IsR.alloc {w : World} {b : Nat} {A : Option Addr} {l : List UInt8} {bad : Bool} (h : IsR w b A l bad) (o : Obj) : IsR (w.alloc o) b A l bad := h.keep ((Kp.refl nob _).alloc o) (fun _ _ e => e)
theorem IsW.apart {w : World} {b : Nat} {A : Option Addr} {l : List UInt8} (h : IsW w b A l) : ∀ k, ab (some (⟨w.heap.size, 0, none⟩ : Addr)) = some k → ¬ WF b A k := by
  intro k hk e; cases hk; exact absurd (h.fLt _ e) (Nat.lt_irrefl _)
theorem isW_new (w : World) : IsW (w.alloc (.cells #[.slice none 0 0] 49)) w.heap.size none [] :=
  ⟨0, heap_alloc_new w _, Own.nil _ _, by simp [ab]⟩
theorem WPost.later {w : World} {b : Nat} {A : Option Addr} {l : List UInt8} {o : Obj} {w' : World} (h : WPost (w.alloc o) b A l w') : WPost w b A l w' := by
  obtain ⟨A', h1, h2, h3⟩ := h
  exact ⟨A', h1, ((Kp.refl nob w).alloc o |>.nob (WF b A)).trans h2 (fun _ e => .inl e), (Grew.refl A w.heap.size).trans h3 (by simp)⟩
theorem WPost.keep {F : Nat → Prop} {w w1 w' : World} {b : Nat} {A : Option Addr} {l : List UInt8} (h : WPost w1 b A l w') (hk : Kp F w w1) (hF : ∀ k, F k → WF b A k ∨ w.heap.size ≤ k) : WPost w b A l w' := by
  obtain ⟨A', h1, h2, h3⟩ := h
  refine ⟨A', h1, ⟨h2.os.trans hk.os, h2.tape.trans hk.tape, h2.output.trans hk.output, Nat.le_trans hk.size h2.size, fun k hk1 hk2 => ?_⟩, (Grew.refl A w.heap.size).trans h3 hk.size⟩
  have := hk.size
  exact (h2.block k (by omega) hk2).trans (hk.block k hk1 (fun e => (hF k e).elim hk2 (by omega)))

theorem WF.ge {b N : Nat} {A : Option Addr} (hb : N ≤ b) (hA : ∀ k, ab A = some k → N ≤ k) : ∀ k, WF b A k → N ≤ k := by
  rintro k (rfl | h)
  · exact hb
  · exact hA k h
theorem wNum1 (b : Nat) (A : Option Addr) (l : List UInt8) (x : Int) (w : World) (t : TypeId) (H : Nat) (hH : w.heap.size = H) (h : IsW w b A l) (hl : l.length + 8 ≤ 1099511627776) :
    Calls Try.prog 12 #[.pointer (some ⟨b, 0, none⟩), .slice (some ⟨H, 0, none⟩) 1 1] (w.alloc (.cells #[.int .i64 x] t)) fun e w' => e = .returned (.tuple #[]) ∧ WPost w b A (l ++ num8 x) w' := by
  subst hH
  refine (wNum b A l (some ⟨w.heap.size, 0, none⟩) 1 1 [x] _ (h.alloc _) rfl (row_one _ _ _) h.apart (by omega) (by omega)).mono ?_
  rintro e w' ⟨rfl, hp⟩
  exact ⟨rfl, by simpa using hp.later⟩
theorem textB_le (s : ByteArray) : (textB s).length ≤ 3 + s.size := by unfold textB; split <;> simp
theorem wText1 (b : Nat) (A : Option Addr) (l : List UInt8) (x : ByteArray) (w : World) (t : TypeId) (H : Nat) (hH : w.heap.size = H) (h : IsW w b A l) (hl : l.length + 3 + x.size ≤ 1099511627776) :
    Calls Try.prog 13 #[.pointer (some ⟨b, 0, none⟩), .slice (some ⟨H, 0, none⟩) 1 1] (w.alloc (.cells #[.string x] t)) fun e w' => e = .returned (.tuple #[]) ∧ WPost w b A (l ++ textB x) w' := by
  subst hH
  have := textB_le x
  refine (wText b A l (some ⟨w.heap.size, 0, none⟩) 1 1 [x] _ (h.alloc _) rfl (row_one _ _ _) h.apart (by omega) (by simp; omega)).mono ?_
  rintro e w' ⟨rfl, hp⟩
  exact ⟨rfl, by simpa using hp.later⟩

theorem conv_row (w1 : World) (A2 : Option Addr) (n c : Nat) (l : List UInt8) (hn : l.length = n) (hr : Row w1 A2 (bvs l)) : (convert 25 9 (.slice A2 n c)).run Try.prog w1 = .ok (.string (str l)) w1 :=
  run_bytes_str w1 25 9 5 u8_under (by kernel_rfl) u8_string A2 n c l hn hr

set_option maxHeartbeats 1000000 in
theorem alive_yes (w : World) : Calls Try.prog 9 #[] w fun e w' => e = .returned (.bool true) ∧ Kp nob w w' := by
  have h0 := isW_new w
  go_enter Try.func9, Try.ntmps9
  go_wp2_with fail
  refine (wNum1 w.heap.size none [] 1 _ _ _ (by simp) h0 (by simp)).mono ?_
  rintro e w1 ⟨rfl, A1, h1, hk1, hg1⟩
  go_wp2_with fail
  refine (wText1 w.heap.size A1 _ ⟨#[97, 98]⟩ _ _ _ rfl h1 (by simp; decide)).mono ?_
  rintro e w2 ⟨rfl, A2, h2, hk2, hg2⟩
  have hl2 : ([] ++ num8 1 ++ textB ⟨#[97, 98]⟩) = [1, 0, 0, 0, 0, 0, 0, 0, 2, 0, 0, 97, 98] := by decide +kernel
  rw [hl2] at h2
  clear hl2
  obtain ⟨l, hl⟩ : ∃ l : List UInt8, l = [1, 0, 0, 0, 0, 0, 0, 0, 2, 0, 0, 97, 98] := ⟨_, rfl⟩
  rw [← hl] at h2
  have hlen : l.length ≤ 1099511627776 := by rw [hl]; decide
  have HL := Lib.hid hl; clear hl
  go_wp2_with fail
  refine (wBytes w.heap.size A2 l _ h2 hlen).mono ?_
  rintro e w3 ⟨B, c3, rfl, ho3, hk3, hf3, hn3⟩
  go_wp2_with fail
  refine (rRead B l.length c3 l _ rfl hlen hn3 ho3.row).mono ?_
  rintro e w4 ⟨rb, A4, rfl, hr4, hk4, hf4⟩
  have h2' := (h2.keep hk3 (fun _ _ e => e)).keep hk4 (fun _ _ e => e)
  go_wp2_with fail
  refine (wBytes w.heap.size A2 l _ h2' hlen).mono ?_
  rintro e w5 ⟨C, c5, rfl, ho5, hk5, hf5, hn5⟩
  have hcv := conv_row w5 C l.length c5 l rfl ho5.row
  have hs : (str l).toList = [1, 0, 0, 0, 0, 0, 0, 0, 2, 0, 0, 97, 98] := by rw [str_toList, HL.out]
  have hr5 := hr4.keep hk5 (fun _ _ e => e)
  obtain ⟨s, hsd⟩ : ∃ s : List UInt8 × Bool, s = (l, false) := ⟨_, rfl⟩
  have hr5' : IsR w5 rb A4 s.1 s.2 := by rw [hsd]; exact hr5
  have hnum := rNum rb A4 s w5 hr5'
  have e1 : (sNum s).1 = 1 := by rw [hsd, HL.out]; decide +kernel
  have e2 : (sNum s).2 = ([2, 0, 0, 97, 98], false) := by rw [hsd, HL.out]; decide +kernel
  rw [e1, e2] at hnum
  clear e1 e2 hsd hr5' hr4 hr5
  go_wp2_with fail
  refine hnum.mono ?_
  rintro e w6 ⟨rfl, A6, hr6, hk6, hA6⟩
  have htx := rText rb A6 ([2, 0, 0, 97, 98], false) 2 w6 hr6
  rw [show sText ([2, 0, 0, 97, 98], false) 2 = ([97, 98], ([], false)) by decide +kernel] at htx
  have hs2 : (str [97, 98]).toList = [97, 98] := str_toList _
  go_wp2_with fail
  refine htx.mono ?_
  rintro e w7 ⟨rfl, A7, hr7, hk7, hA7⟩
  have hen := rEnd rb A7 ([], false) w7 hr7
  rw [show (!([], false).2 && ([] : List UInt8).isEmpty) = true from rfl] at hen
  go_wp2_with fail
  refine hen.mono ?_
  rintro e w8 ⟨rfl, rfl⟩
  go_wp2
  go_ret
  have s0 : Kp nob w (w.alloc (.cells #[.slice none 0 0] 49)) := (Kp.refl _ _).alloc _
  have n0 : ∀ k, ab none = some k → w.heap.size ≤ k := fun k e => by cases e
  have n1 := hg1.ge n0 s0.size
  have s1 := s0.since hk1 (WF.ge (Nat.le_refl _) n0)
  have s2 := s1.since hk2 (WF.ge (Nat.le_refl _) n1)
  have s3 := s2.trans hk3 (fun _ e => e.elim)
  have s4 := s3.trans hk4 (fun _ e => e.elim)
  have s5 := s4.trans hk5 (fun _ e => e.elim)
  have hrb : w.heap.size ≤ rb := Nat.le_trans s3.size (hf4 rb (.inl rfl))
  have s6 := s5.since hk6 (fun k e => by unfold oneF at e; omega)
  have s7 := s6.since hk7 (fun k e => by unfold oneF at e; omega)
  exact ⟨rfl, s7⟩
end Go.Proofs.Ytenihiphcbheeaa
