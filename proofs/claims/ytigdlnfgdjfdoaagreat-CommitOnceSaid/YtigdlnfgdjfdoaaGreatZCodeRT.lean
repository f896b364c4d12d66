/- Contracts of the reader of package code: Take, End, Text. -/
import Derived.Test.YtigdlnfgdjfdoaaGreatZK10
set_option maxHeartbeats 4000000
set_option maxRecDepth 100000
set_option linter.unusedVariables false
set_option linter.unusedSimpArgs false
namespace Go.Proofs.YtigdlnfgdjfdoaaGreat
open Go Go.RowKit Kit
def TakePost (w : World) (b : Nat) (A : Option Addr) (s : List UInt8 × Bool) (n : Int) (e : Ending) (w' : World) : Prop :=
 ∃ A2 c2, e = .returned (.tuple #[.slice A2 (sTake s n).1.1.length c2, .bool (sTake s n).1.2]) ∧ Kit.Own 5 w' A2 (sTake s n).1.1.length c2 (bvs (sTake s n).1.1) ∧ Fresh w.heap.size A2 ∧ RPost w b A (sTake s n).2 w'
theorem rTake (b : Nat) (A : Option Addr) (s : List UInt8 × Bool) (n : Int) (w : World) (h : IsR w b A s.1 s.2) (hl : s.1.length ≤ 1099511627776) :
    Calls Tryz.prog 104 #[.pointer (some ⟨b, 0, none⟩), .int .i64 n] w (TakePost w b A s n) := by
 cases hc : can s n with
 | false =>
   have HC := Lib.hid hc; clear hc
   go_enter Tryz.func104, Tryz.ntmps104
   go_wp2_with (first | (go_at_call 118; refine (rNext_no b A s n _ h HC.out).mono ?_; rintro e w' ⟨rfl, hr, hk⟩) | (go_at_call 84; refine (clone_nil _).mono ?_; rintro e w' ⟨rfl, rfl⟩))
   go_ret2
   have e : sTake s n = (([], false), bust) := by simp [sTake, HC.out]
   refine ⟨none, 0, by rw [e]; rfl, by rw [e]; exact Own.nil _ _, (fun k h => by cases h), none, by rw [e]; exact hr, hk, .inr rfl⟩
 | true =>
   have hs : s.2 = false ∧ 0 ≤ n ∧ n ≤ s.1.length := by simpa [can] using hc
   have e : sTake s n = ((s.1.take n.toNat, true), (s.1.drop n.toNat, false)) := by simp [sTake, hc]
   have E := Lib.hid e; clear e hc
   obtain ⟨hs1, hs2, hs3⟩ := hs
   rw [hs1] at h
   clear hs1
   have hlen : (s.1.take n.toNat).length = n.toNat := by rw [List.length_take]; omega
   have HL := Lib.hid hlen; clear hlen
   go_enter Tryz.func104, Tryz.ntmps104
   go_wp2_with (first | (go_at_call 118; refine (rNext_int b A s.1 n _ h hs2 hs3).mono ?_; rintro e w1 ⟨c, A1, rfl, hr, hk, hrow, hA1, hA2, h0⟩) | (go_at_call 84; refine (clone_any A n.toNat c (s.1.take n.toNat) _ HL.out (by omega) h0 hrow).mono ?_; rintro e w' ⟨A', c', rfl, ho, hk2, hf, h0⟩))
   go_ret2
   have hl2 : (sTake s n).1.1.length = n.toNat := by rw [E.out]; exact HL.out
   refine ⟨A', c', by rw [hl2, E.out]; rfl, by rw [E.out]; exact ho, fun k e => Nat.le_trans hk.size (hf k e), A1, by rw [E.out]; exact hr.keep hk2 (fun _ _ e => e), hk.trans hk2 (fun _ e => e.elim), .inl hA1⟩
theorem rEnd (b : Nat) (A : Option Addr) (s : List UInt8 × Bool) (w : World) (h : IsR w b A s.1 s.2) :
    Calls Tryz.prog 105 #[.pointer (some ⟨b, 0, none⟩)] w fun e w' => e = .returned (.bool (!s.2 && s.1.isEmpty)) ∧ w = w' := by
 obtain ⟨l, bad⟩ := s
 cases bad with
 | true =>
   go_enter Tryz.func105, Tryz.ntmps105
   go_wp2_with (first | (go_at_call 120; refine (rGood b A l true _ h).mono ?_; rintro e w' ⟨rfl, rfl⟩))
   go_ret
   exact ⟨rfl, rfl⟩
 | false =>
   go_enter Tryz.func105, Tryz.ntmps105
   go_wp2_with (first | (go_at_call 120; refine (rGood b A l false _ h).mono ?_; rintro e w' ⟨rfl, rfl⟩) | (go_at_call 121; refine (rLeft b A l false _ h).mono ?_; rintro e w' ⟨rfl, rfl⟩))
   go_ret
   refine ⟨?_, rfl⟩
   show Ending.returned (.bool ((l.length : Int) == 0)) = _
   cases l <;> simp
   omega
theorem rText (b : Nat) (A : Option Addr) (s : List UInt8 × Bool) (most : Int) (w : World) (h : IsR w b A s.1 s.2) :
    Calls Tryz.prog 103 #[.pointer (some ⟨b, 0, none⟩), .int .i64 most] w fun e w' => e = .returned (.string (str (sText s most).1)) ∧ RPost w b A (sText s most).2 w' := by
 have hnext := rNext b A s 3 w h
 obtain ⟨t, ht⟩ : ∃ t, t = sTake s 3 := ⟨_, rfl⟩
 have hlen := sTake_length s 3
 unfold NextPost at hnext
 rw [← ht] at hnext hlen
 obtain ⟨m, hm⟩ : ∃ m, m = t.1.1.length := ⟨_, rfl⟩
 have hm3 : m ≤ 3 := by rw [hm]; simpa using hlen
 obtain ⟨N, hN⟩ : ∃ N, N = lowN t.1.1 := ⟨_, rfl⟩
 have hN0 : N < 16777216 := by
  have h1 := lowN_lt t.1.1
  have h2 : 256 ^ t.1.1.length ≤ 256 ^ 3 := Nat.pow_le_pow_right (by omega) (by omega)
  rw [← hN] at h1; omega
 have hlow : ∀ (A2 : Option Addr) (c2 : Nat) (w1 : World), Row w1 A2 (bvs t.1.1) → Calls Tryz.prog 119 #[.slice A2 m c2] w1 fun e w' => e = .returned (.int .u64 (N : Nat)) ∧ w1 = w' :=
  fun A2 c2 w1 hr => by rw [hN]; exact low_any A2 m c2 t.1.1 w1 hm.symm (by omega) hr
 rw [← hm] at hnext
 have hst : sText s most = if min most 65536 < (N : Int) then ([], bust) else ((sTake t.2 (N : Nat)).1.1, (sTake t.2 (N : Nat)).2) := by rw [sText, ← ht, ← hN]
 have HS := Lib.hid hst
 have HM := Lib.hid hm; have HT := Lib.hid ht; have HN := Lib.hid hN; have HL := Lib.hid hlow; have H0 := Lib.hid hN0
 clear hst hm ht hN hlow hlen hN0
 have hN1 : (N : Int) < 16777216 := by have := H0.out; omega
 have hN2 : (N : Int) ≤ 9223372036854775807 := by omega
 clear hN1
 have HI := Lib.hid h; clear h
 have fin1 : min most 65536 < (N : Int) → ∀ (w1 w' : World), RPost w b A t.2 w1 → IsR w' b none [] true → Kp (oneF b) w1 w' → Ending.returned (.string (str [])) = .returned (.string (str (sText s most).1)) ∧ RPost w b A (sText s most).2 w' := by
  intro hc w1 w' hp hr hk
  rw [HS.out, if_pos hc]
  exact ⟨rfl, hp.bust hr hk⟩
 have fin2 : ¬ min most 65536 < (N : Int) → ∀ (w1 w' : World) (A1 : Option Addr), Kp (oneF b) w w1 → (ab A1 = ab A ∨ ab A1 = none) → RPost w1 b A1 (sTake t.2 (N : Nat)).2 w' → Ending.returned (.string (str (sTake t.2 (N : Nat)).1.1)) = .returned (.string (str (sText s most).1)) ∧ RPost w b A (sText s most).2 w' := by
  rintro hc w1 w' A1 hk1 hA1 ⟨A2, h1, h2, h3⟩
  rw [HS.out, if_neg hc]
  refine ⟨rfl, A2, h1, hk1.trans h2 (fun _ e => .inl e), ?_⟩
  rcases h3 with h3 | h3
  · rcases hA1 with h4 | h4
    · exact .inl (h3.trans h4)
    · exact .inr (h3.trans h4)
  · exact .inr h3
 have F1 := Lib.hid fin1; clear fin1
 have F2 := Lib.hid fin2; clear fin2
 have conv : ∀ (w1 : World) (A2 : Option Addr) (n c : Nat) (l : List UInt8), l.length = n → Row w1 A2 (bvs l) → (convert 58 9 (.slice A2 n c)).run Tryz.prog w1 = .ok (.string (str l)) w1 :=
  fun w1 A2 n c l hn hr => run_bytes_str w1 58 9 5 u8_under (by kernel_rfl) u8_string A2 n c l hn hr
 have CV := Lib.hid conv; clear conv
 by_cases hm : most ≤ 65536
 · by_cases hc : most < (N : Int)
   · have hcc : min most 65536 < (N : Int) := by omega
     have HC := Lib.hid hcc; clear hcc
     have hb1 : decide (most < (N : Int)) = true := by simp; omega
     clear hc
     go_enter Tryz.func103, Tryz.ntmps103
     go_wp2_with fail
     refine hnext.mono ?_
     rintro e w1 ⟨A2, c2, rfl, hr, h0, hp, hne⟩
     have HP := Lib.hid hp
     obtain ⟨A1, h1, hk1, hA1⟩ := hp
     go_wp2_with (first | (go_at_call 119; refine (HL.out _ _ _ hr).mono ?_; rintro e w' ⟨rfl, rfl⟩) | (go_at_call 117; refine (rFail b A1 t.2.1 t.2.2 _ h1).mono ?_; rintro e w2 ⟨rfl, hr2, hk2⟩))
     refine (rNext_no b none bust (N : Int) _ hr2 (by simp [can, bust])).mono ?_
     rintro e w3 ⟨rfl, hr3, hk3⟩
     have c0 := CV.out w3 none 0 0 [] rfl (Row.nil _ _)
     go_wp2
     go_ret
     exact F1.out HC.out w1 w3 HP.out hr3 (hk2.trans hk3 (fun _ e => .inl e))
   · have hcc : ¬ min most 65536 < (N : Int) := by omega
     have HC := Lib.hid hcc; clear hcc
     have hb1 : decide (most < (N : Int)) = false := by simp; omega
     clear hc
     go_enter Tryz.func103, Tryz.ntmps103
     go_wp2_with fail
     refine hnext.mono ?_
     rintro e w1 ⟨A2, c2, rfl, hr, h0, hp, hne⟩
     have HP := Lib.hid hp
     obtain ⟨A1, h1, hk1, hA1⟩ := hp
     go_wp2_with (go_at_call 119; refine (HL.out _ _ _ hr).mono ?_; rintro e w' ⟨rfl, rfl⟩)
     refine (rNext b A1 t.2 (N : Int) _ h1).mono ?_
     rintro e w3 ⟨A3, c3, rfl, hr3, h03, hp3, hne3⟩
     have c0 := CV.out w3 A3 _ c3 _ rfl hr3
     go_wp2
     go_ret
     exact F2.out HC.out w1 w3 A1 hk1 hA1 hp3
 · by_cases hc : (65536 : Int) < (N : Int)
   · have hcc : min most 65536 < (N : Int) := by omega
     have HC := Lib.hid hcc; clear hcc
     have hb1 : decide ((65536 : Int) < (N : Int)) = true := by simp; omega
     clear hc
     go_enter Tryz.func103, Tryz.ntmps103
     go_wp2_with fail
     refine hnext.mono ?_
     rintro e w1 ⟨A2, c2, rfl, hr, h0, hp, hne⟩
     have HP := Lib.hid hp
     obtain ⟨A1, h1, hk1, hA1⟩ := hp
     go_wp2_with (first | (go_at_call 119; refine (HL.out _ _ _ hr).mono ?_; rintro e w' ⟨rfl, rfl⟩) | (go_at_call 117; refine (rFail b A1 t.2.1 t.2.2 _ h1).mono ?_; rintro e w2 ⟨rfl, hr2, hk2⟩))
     refine (rNext_no b none bust (N : Int) _ hr2 (by simp [can, bust])).mono ?_
     rintro e w3 ⟨rfl, hr3, hk3⟩
     have c0 := CV.out w3 none 0 0 [] rfl (Row.nil _ _)
     go_wp2
     go_ret
     exact F1.out HC.out w1 w3 HP.out hr3 (hk2.trans hk3 (fun _ e => .inl e))
   · have hcc : ¬ min most 65536 < (N : Int) := by omega
     have HC := Lib.hid hcc; clear hcc
     have hb1 : decide ((65536 : Int) < (N : Int)) = false := by simp; omega
     clear hc
     go_enter Tryz.func103, Tryz.ntmps103
     go_wp2_with fail
     refine hnext.mono ?_
     rintro e w1 ⟨A2, c2, rfl, hr, h0, hp, hne⟩
     have HP := Lib.hid hp
     obtain ⟨A1, h1, hk1, hA1⟩ := hp
     go_wp2_with (go_at_call 119; refine (HL.out _ _ _ hr).mono ?_; rintro e w' ⟨rfl, rfl⟩)
     refine (rNext b A1 t.2 (N : Int) _ h1).mono ?_
     rintro e w3 ⟨A3, c3, rfl, hr3, h03, hp3, hne3⟩
     have c0 := CV.out w3 A3 _ c3 _ rfl hr3
     go_wp2
     go_ret
     exact F2.out HC.out w1 w3 A1 hk1 hA1 hp3
end Go.Proofs.YtigdlnfgdjfdoaaGreat
