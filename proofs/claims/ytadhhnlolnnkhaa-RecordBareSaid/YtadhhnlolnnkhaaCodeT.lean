/- The document's reader takes a text; what a nil reader answers. -/
import Derived.Test.YtadhhnlolnnkhaaCodeM
import Derived.Deep.RegionWith
import Derived.Deep.QuietTactic
import Derived.BigQuiet
namespace Go.Proofs.Ytadhhnlolnnkhaa
open Go Go.RowKit Kit

theorem three {α : Type} (l : List α) (h : l.length = 3) : ∃ a b c, l = [a, b, c] := by
  match l, h with
  | [a, b, c], _ => exact ⟨a, b, c, rfl⟩
set_option maxHeartbeats 1000000 in
set_option maxRecDepth 100000 in
theorem mText (b : Nat) (s : List UInt8 × Bool) (most : Int) (w : World) (h : IsM w b s) :
    Calls Try.prog 34 #[.pointer (some ⟨b, 0, none⟩), .int .i64 most] w fun e w' => e = .returned (.string (str (sText s most).1)) ∧ MPost w b (sText s most).2 w' := by
  have htk := mTake b s 3 w h
  cases hok : (sTake s 3).1.2 with
  | false =>
    have e := sTake_not s 3 hok
    have e2 : sText s most = ([], bust) := by
      rw [sText, e]
      split
      · rfl
      · rw [show sTake bust ((lowN [] : Nat) : Int) = (([], false), bust) by simp [sTake, can, bust]]
    rw [e2]
    rw [e] at htk
    clear e e2 hok
    go_enter Try.func34, Try.ntmps34
    go_wp2_with fail
    refine htk.mono ?_
    rintro e w1 ⟨rfl, h1⟩
    go_wp2
    go_ret
    exact ⟨rfl, h1⟩
  | true =>
    have hl := (sTake_ok s 3 hok).1
    rw [hok] at htk
    obtain ⟨t, ht⟩ : ∃ t, t = (sTake s 3).1.1 := ⟨_, rfl⟩
    obtain ⟨s2, hs2⟩ : ∃ s2, s2 = (sTake s 3).2 := ⟨_, rfl⟩
    rw [← ht, ← hs2] at htk
    rw [← ht] at hl
    obtain ⟨N, hN⟩ : ∃ N, N = lowN t := ⟨_, rfl⟩
    obtain ⟨x, y, z, hxyz⟩ := three t (by omega)
    have hNv : (x.toNat : Int) + 256 * y.toNat + 65536 * z.toNat = (N : Int) := by rw [hN, hxyz]; simp only [lowN]; omega
    have hst : sText s most = if min most 65536 < (N : Int) then ([], bust) else ((sTake s2 (N : Nat)).1.1, (sTake s2 (N : Nat)).2) := by rw [sText, ← ht, ← hs2, ← hN]
    have htk2 : ∀ w1, MPost w b s2 w1 → Calls Try.prog 32 #[.pointer (some ⟨b, 0, none⟩), .int .i64 (N : Int)] w1 fun e w' => e = .returned (.tuple #[.string (str (sTake s2 (N : Nat)).1.1), .bool (sTake s2 (N : Nat)).1.2]) ∧ MPost w b (sTake s2 (N : Nat)).2 w' :=
      fun w1 h1 => (mTake b s2 N w1 h1.1).mono fun e w' ⟨he, h2⟩ => ⟨he, h1.then_ h2⟩
    have hneg : ∀ w1, MPost w b s2 w1 → Calls Try.prog 32 #[.pointer (some ⟨b, 0, none⟩), .int .i64 (-1)] w1 fun e w' => e = .returned (.tuple #[.string (str []), .bool false]) ∧ MPost w b bust w' := by
      intro w1 h1
      have := mTake b s2 (-1) w1 h1.1
      rw [sTake_neg] at this
      exact this.mono fun e w' ⟨he, h2⟩ => ⟨he, h1.bust h2⟩
    have T2 := Lib.hid htk2; have TN := Lib.hid hneg; have HS := Lib.hid hst; have HNV := Lib.hid hNv
    have hx := x.toNat_lt; have hy := y.toNat_lt; have hz := z.toNat_lt
    clear htk2 hneg hst hNv hN hl hok ht hs2
    have e7 : wrap64 (wrap64 (wrap64 (x.toNat : Int) + wrap64 (256 * wrap64 (y.toNat : Int))) + wrap64 (65536 * wrap64 (z.toNat : Int))) = (N : Int) := by
      rw [← HNV.out]; simp only [wrap64]; omega
    have E7 := Lib.hid e7; clear e7
    have e0 : ∀ hb, ((str [x, y, z])[0]'hb) = x := fun _ => rfl
    have e1 : ∀ hb, ((str [x, y, z])[1]'hb) = y := fun _ => rfl
    have e2 : ∀ hb, ((str [x, y, z])[2]'hb) = z := fun _ => rfl
    have E0 := Lib.hid e0; have E1 := Lib.hid e1; have E2 := Lib.hid e2
    clear e0 e1 e2
    have hN0 : (N : Int) < 16777216 := by have := HNV.out; omega
    have HN0 := Lib.hid hN0; clear hN0
    by_cases hc : min most 65536 < (N : Int)
    · have fin : ∀ w1 w2, MPost w b s2 w1 → MPost w b bust w2 → Ending.returned (.string (str [])) = .returned (.string (str (sText s most).1)) ∧ MPost w b (sText s most).2 w2 := by
        intro w1 w2 _ h2
        rw [HS.out, if_pos hc]
        exact ⟨rfl, h2⟩
      have FIN := Lib.hid fin; clear fin
      by_cases c1 : most < (N : Int)
      · have hb1 : decide (most < (N : Int)) = true := decide_eq_true c1
        clear hc c1
        go_enter Try.func34, Try.ntmps34
        go_wp2_with fail
        refine htk.mono ?_
        rintro e w1 ⟨rfl, h1⟩
        clear htk
        subst hxyz
        go_wp2
        go_quiet (fail)
        have h1' : MPost w b s2 (w1.drewN nq) := ⟨h1.1.keep (F := nob) ((Kp.refl _ _).drewN nq) (fun e => e), h1.2.drewN nq⟩
        simp only [E0.out, E1.out, E2.out, E7.out]
        go_wp2_with (go_at_call 32; refine (TN.out _ h1').mono ?_; rintro e w2 ⟨rfl, h2⟩)
        go_ret
        exact FIN.out _ w2 h1' h2
      · have hb1 : decide (most < (N : Int)) = false := decide_eq_false c1
        have hb2 : decide ((65536 : Int) < (N : Int)) = true := by simp; omega
        clear hc c1
        go_enter Try.func34, Try.ntmps34
        go_wp2_with fail
        refine htk.mono ?_
        rintro e w1 ⟨rfl, h1⟩
        clear htk
        subst hxyz
        go_wp2
        go_quiet (fail)
        have h1' : MPost w b s2 (w1.drewN nq) := ⟨h1.1.keep (F := nob) ((Kp.refl _ _).drewN nq) (fun e => e), h1.2.drewN nq⟩
        simp only [E0.out, E1.out, E2.out, E7.out]
        go_wp2_with (go_at_call 32; refine (TN.out _ h1').mono ?_; rintro e w2 ⟨rfl, h2⟩)
        go_ret
        exact FIN.out _ w2 h1' h2
    · have fin : ∀ w1 w2, MPost w b s2 w1 → MPost w b (sTake s2 (N : Nat)).2 w2 → Ending.returned (.string (str (sTake s2 (N : Nat)).1.1)) = .returned (.string (str (sText s most).1)) ∧ MPost w b (sText s most).2 w2 := by
        intro w1 w2 _ h2
        rw [HS.out, if_neg hc]
        exact ⟨rfl, h2⟩
      have FIN := Lib.hid fin; clear fin
      have hb1 : decide (most < (N : Int)) = false := decide_eq_false (by omega)
      have hb2 : decide ((65536 : Int) < (N : Int)) = false := by simp; omega
      clear hc
      go_enter Try.func34, Try.ntmps34
      go_wp2_with fail
      refine htk.mono ?_
      rintro e w1 ⟨rfl, h1⟩
      clear htk
      subst hxyz
      go_wp2
      go_quiet (fail)
      have h1' : MPost w b s2 (w1.drewN nq) := ⟨h1.1.keep (F := nob) ((Kp.refl _ _).drewN nq) (fun e => e), h1.2.drewN nq⟩
      simp only [E0.out, E1.out, E2.out, E7.out]
      go_wp2_with (go_at_call 32; refine (T2.out _ h1').mono ?_; rintro e w2 ⟨rfl, h2⟩)
      go_ret
      exact FIN.out _ w2 h1' h2
end Go.Proofs.Ytadhhnlolnnkhaa
