/- HmacSame: Same answers whether two lists of bytes are the same. -/
import Derived.Test.YtdfpfiipcieabaaDoorHmacL
import Derived.Test.YtdfpfiipcieabaaDoorApp
namespace Go.Proofs.YtdfpfiipcieabaaDoor.Hmac
open Go Go.RowKit Kit
open Sha (Tabs Far Has Pc PcsOk catP u8s_under arr32b u8s_info own_new own_one own_none u8_string row_marked eq32 conv_row slice_to)

set_option maxHeartbeats 1000000 in
theorem same_long (A : Option Addr) (n c : Nat) (B : Option Addr) (m d : Nat) (i j : Int) (w : World) (ht : Tabs w) (hn : n ≤ maxLen) (hm : m ≤ maxLen) (h : 4096 < n ∨ 4096 < m) :
    Calls Tryd.prog 6 #[.slice A n c, .slice B m d, .int .i64 i, .int .u8 j] w fun e w' => e = .returned (.bool true) ∧ Kp nob w w' := by
  unfold maxLen at hm hn
  by_cases h1 : 4096 < n
  · have d1 : decide ((4096 : Int) < (n : Int)) = true := by simp; omega
    go_enter Tryd.func6, Tryd.ntmps6
    go_wp2_with fail
    refine (alive_yes _ ht).mono ?_
    rintro e w1 ⟨rfl, k1⟩
    go_wp2
    go_ret
    exact ⟨rfl, k1⟩
  · have d1 : decide ((4096 : Int) < (n : Int)) = false := by simp; omega
    have d2 : decide ((4096 : Int) < (m : Int)) = true := by simp; omega
    go_enter Tryd.func6, Tryd.ntmps6
    go_wp2_with fail
    refine (alive_yes _ ht).mono ?_
    rintro e w1 ⟨rfl, k1⟩
    go_wp2
    go_ret
    exact ⟨rfl, k1⟩

theorem own_empty (w : World) : Own 5 (w.alloc (.cells #[] 5)) (some ⟨w.heap.size, 0, none⟩) 0 0 [] := World.ownsRow_made w #[] 0 (Nat.zero_le _) (by simp [maxLen]) rfl

theorem xor_own (x j : UInt8) (h : x = x ^^^ j) : j = 0 := by
  have := congrArg (fun y => x ^^^ y) h
  simp only [UInt8.xor_self, ← UInt8.xor_assoc, UInt8.zero_xor] at this
  exact this.symm
theorem same_no (A : Option Addr) (n c : Nat) (l : List UInt8) (B : Option Addr) (m d : Nat) (q : List UInt8) (w : World) (hl : l.length = n) (hr : Row w A (bvs l)) (hn : n ≤ 1099511627776) (hq : q.length = m) (hr2 : Row w B (bvs q)) (hm : m ≤ 1099511627776) (hne : ¬ l = q) :
    Calls Tryd.prog 16 #[.slice A n c, .slice B m d] w fun e w' => e = .returned (.bool false) ∧ w = w' := by
  have := same_any A n c l B m d q w hl hr hn hq hr2 hm
  rwa [show (l == q) = false by simpa using hne] at this

set_option maxHeartbeats 2000000 in
theorem same_eq (A : Option Addr) (n c : Nat) (l : List UInt8) (B : Option Addr) (d : Nat) (i : Int) (j : UInt8) (w : World) (ht : Tabs w) (hl : l.length = n) (hc : n ≤ c) (hA : A = none → c = 0) (hr : Row w A (bvs l)) (hq : l.length = n) (hB : B = none → d = 0) (hrb : Row w B (bvs l)) (hn : n ≤ 4096) (hm : n ≤ 4096) :
    Calls Tryd.prog 6 #[.slice A n c, .slice B n d, .int .i64 i, .int .u8 j.toNat] w fun e w' => e = .returned (.bool true) ∧ Kp nob w w' := by
  obtain ⟨i0, hi, hz0, hz1, hz2⟩ := info_parts u8s_info
  have d1 : decide ((4096 : Int) < (n : Int)) = false := by simp; omega
  have HL := Lib.hid hl; have HQ := Lib.hid hq
  have HBL : Hid ((bvs l).length = n) := Lib.hid (by rw [bvs_length, hl])
  clear hl hq
  go_enter Tryd.func6, Tryd.ntmps6
  go_wp2_with fail
  refine (alive_yes _ ht).mono ?_
  rintro e w1 ⟨rfl, k1⟩
  have kd : Kp nob w w1.drew := k1.drew
  have ho : Own 5 (w1.alloc (.cells #[] 5)).drew (some ⟨w1.heap.size, 0, none⟩) 0 0 [] := (own_empty w1).keep (Kp.refl nob _).drew (fun _ _ e => e)
  have q1 := conv_row w1.drew A n c l HL.out (hr.keep0 kd)
  have q2 := conv_row w1.drew B n d l HQ.out (hrb.keep0 kd)
  go_wp2
  go_region_held3 (fun w' => (convert 22 9 (.slice A n c)).run Tryd.prog w' = .ok (.string (str l)) w' ∧ (convert 22 9 (.slice B n d)).run Tryd.prog w' = .ok (.string (str l)) w' ∧ Kp nob w w')
    ((refine ⟨?_, ?_, ?_⟩ <;> first | assumption | exact conv_row _ A n c l HL.out (hr.keep0 (Kp.alloc k1 _).drew) | exact conv_row _ B n d l HQ.out (hrb.keep0 (Kp.alloc k1 _).drew) | exact (Kp.alloc k1 _).drew))
    (first
      | (go_at_call_of 16 (Value.slice B n d)
         obtain ⟨_, _, ka⟩ := ‹_ ∧ _ ∧ Kp nob w _›
         refine (same_self A n c l B d _ HL.out (hr.keep0 ka) (by omega) (hrb.keep0 ka)).mono ?_
         rintro e w2 ⟨rfl, rfl⟩)
      | (obtain ⟨_, _, ka⟩ := ‹_ ∧ _ ∧ Kp nob w _›
         refine step_appR (by rfl) (.tmp 31) (.tmp 32) 22 rfl 5 i0 (.int .u8 0) 1 u8s_under hi hz0 hz1 hz2 rfl _ 0 0 [] rfl ho A n c (bvs l) rfl hA HBL.out (hr.keep0 ka) (bvs_one l) (by omega) (by omega) ?_
         intro X cX w3 hX hgX habX
         have KK : Kp nob w w3 := Kp.grown ka hgX (fun k e => .inr (by cases e; exact k1.size))
         rw [Nat.zero_add, List.nil_append] at hX
         rw [Nat.zero_add]
         have RX := Lib.hid hX.row
         have q3 := conv_row w3 A n c l HL.out (hr.keep0 KK)
         have q4 := conv_row w3 B n d l HQ.out (hrb.keep0 KK)
         clear hX hgX habX ho)
      | (go_at_call 16
         obtain ⟨_, _, ka⟩ := ‹_ ∧ _ ∧ Kp nob w _›
         refine (same_self A n c l X cX _ HL.out (hr.keep0 ka) (by omega) RX.out).mono ?_
         rintro e w4 ⟨rfl, rfl⟩))
  clear q1 q2 q3 q4 ‹_ ∧ _ ∧ Kp nob w _›
  by_cases hin : 0 ≤ i ∧ i < n
  · obtain ⟨p, rfl⟩ : ∃ p : Nat, i = p := ⟨i.toNat, by omega⟩
    have hpn : p < n := by omega
    have d3 : decide ((p : Int) < 0) = false := by simp
    have d4 : decide ((n : Int) ≤ (p : Int)) = false := by simp; omega
    clear hin
    go_wp2_with (at_builtin
                 refine wpList_appR _ rfl (.tmp 45) (.tmp 46) 22 rfl 5 i0 (.int .u8 0) 1 u8s_under hi hz0 hz1 hz2 rfl _ 0 0 [] rfl (own_empty w3) A n c (bvs l) rfl hA HBL.out ((hr.keep0 KK).alloc _) (bvs_one l) (by omega) (by omega) ?_
                 intro Z cZ w5 hZ hgZ habZ
                 have K5 : Kp nob w w5 := (KK.alloc _).grown hgZ (fun k e => .inr (by cases e; exact KK.size))
                 have nZ : ∀ k, ab Z = some k → w.heap.size ≤ k := fun k e => by
                   rcases habZ with h | h <;> rw [h] at e <;> cases e
                   · exact KK.size
                   · have := KK.size; simp; omega
                 rw [Nat.zero_add, List.nil_append] at hZ
                 rw [Nat.zero_add]
                 obtain ⟨bz, rfl, hbz, hcz, hfz, hsz⟩ := hZ.at_ hpn
                 have hcz' : w5.cell? ⟨bz, p, none⟩ = some (.int .u8 (l[p]'(by rw [HL.out]; exact hpn)).toNat) := by rw [hcz]; simp [bvs, bv]
                 have HZ := Lib.hid hZ
                 have hcap := hZ.cap
                 have nZ2 := nZ bz rfl
                 clear hgZ habZ hcz hsz hZ nZ)
    have hpl : p < l.length := by rw [HL.out]; exact hpn
    have s1 := fun wx => slice_to A n c p (by omega) wx
    have K6 : Kp nob w (w5.setCell ⟨bz, p, none⟩ (bv (l[p] ^^^ j))) := K5.setCell (p := ⟨bz, p, none⟩) (.inr nZ2) _
    have hO := HZ.out.set p (bv (l[p] ^^^ j))
    rw [show (Value.int IntKind.u8 ((l[p].toNat ^^^ j.toNat : Nat) : Int)) = bv (l[p] ^^^ j) by simp [bv]]
    rw [bvs, bv, ← bv, ← List.map_set, ← bvs] at hO
    have hR6 := hO.row
    have HL2 : Hid ((l.set p (l[p] ^^^ j)).length = n) := Lib.hid (by rw [List.length_set, HL.out])
    have hrt : Row (w5.setCell ⟨bz, p, none⟩ (bv (l[p] ^^^ j))) A (bvs (l.take p)) := by
      have := (hr.keep0 K6).take p
      rwa [bvs, ← List.map_take, ← bvs] at this
    have HTL : Hid ((l.take p).length = p) := Lib.hid (by rw [List.length_take]; omega)
    have HTN : Hid (¬ l = l.take p) := Lib.hid (fun e => by have := congrArg List.length e; rw [HTL.out] at this; omega)
    by_cases hj : j = 0
    case' pos =>
      have d5 : ((j.toNat : Int) == 0) = true := by rw [hj]; rfl
      have HE : Hid (l.set p (l[p] ^^^ j) = l) := Lib.hid (by rw [hj]; simp)
      rw [HE.out] at hR6
      have HS1 := Lib.hid (same_self A n c l (some ⟨bz, 0, none⟩) cZ _ HL.out (hr.keep0 K6) (by omega) hR6)
      clear HE
    case' neg =>
      have d5 : ((j.toNat : Int) == 0) = false := by
        rw [beq_eq_false_iff_ne]; intro e
        apply hj; apply UInt8.toNat_inj.1
        have : j.toNat = 0 := by omega
        rw [this]; rfl
      have HE : Hid (¬ l = l.set p (l[p] ^^^ j)) := Lib.hid (fun e => by
        have h1 := congrArg (fun q : List UInt8 => q[p]?) e
        simp only [List.getElem?_eq_getElem hpl, List.getElem?_set_self hpl, Option.some.injEq] at h1
        exact hj (xor_own _ _ h1))
      have HS1 := Lib.hid (same_no A n c l (some ⟨bz, 0, none⟩) n cZ _ _ HL.out (hr.keep0 K6) (by omega) HL2.out hR6 (by omega) HE.out)
      clear HE
    all_goals
      generalize w5.setCell ⟨bz, p, none⟩ (bv (l[p] ^^^ j)) = w6 at *
      clear hj hO HZ hcz' hfz
      refine (HS1.out).mono ?_
      rintro e w7 ⟨rfl, rfl⟩
      clear HS1
      go_wp2_with (go_at_call 16
                   refine (same_no A n c l A p c (l.take p) _ HL.out (hr.keep0 K6) (by omega) HTL.out hrt (by omega) HTN.out).mono ?_
                   rintro e w8 ⟨rfl, rfl⟩)
      go_ret
      exact ⟨rfl, K6⟩
  · by_cases h0 : i < 0
    · have d3 : decide (i < 0) = true := by simp; omega
      go_wp2
      go_ret
      exact ⟨rfl, KK⟩
    · have d3 : decide (i < 0) = false := by simp; omega
      have d4 : decide ((n : Int) ≤ i) = true := by simp; omega
      go_wp2
      go_ret
      exact ⟨rfl, KK⟩
set_option maxHeartbeats 2000000 in
theorem same_ne (A : Option Addr) (n c : Nat) (l : List UInt8) (B : Option Addr) (m : Nat) (d : Nat) (q : List UInt8) (i : Int) (j : UInt8) (w : World) (ht : Tabs w) (hl : l.length = n) (hc : n ≤ c) (hA : A = none → c = 0) (hr : Row w A (bvs l)) (hq : q.length = m) (hB : B = none → d = 0) (hrb : Row w B (bvs q)) (hn : n ≤ 4096) (hm : m ≤ 4096) (hne : ¬ l = q) :
    Calls Tryd.prog 6 #[.slice A n c, .slice B m d, .int .i64 i, .int .u8 j.toNat] w fun e w' => e = .returned (.bool true) ∧ Kp nob w w' := by
  obtain ⟨i0, hi, hz0, hz1, hz2⟩ := info_parts u8s_info
  have d1 : decide ((4096 : Int) < (n : Int)) = false := by simp; omega
  have d2 : decide ((4096 : Int) < (m : Int)) = false := by simp; omega
  have HL := Lib.hid hl; have HQ := Lib.hid hq
  have HBL : Hid ((bvs l).length = n) := Lib.hid (by rw [bvs_length, hl])
  clear hl hq
  have HS := Lib.hid (fun w h1 h2 => same_no A n c l B m d q w HL.out h1 (by omega) HQ.out h2 (by omega) hne)
  have e1 : ((str l).toList == (str q).toList) = false := by rw [str_toList, str_toList]; simpa using hne
  clear hne
  go_enter Tryd.func6, Tryd.ntmps6
  go_wp2_with fail
  refine (alive_yes _ ht).mono ?_
  rintro e w1 ⟨rfl, k1⟩
  have kd : Kp nob w w1.drew := k1.drew
  have ho : Own 5 (w1.alloc (.cells #[] 5)).drew (some ⟨w1.heap.size, 0, none⟩) 0 0 [] := (own_empty w1).keep (Kp.refl nob _).drew (fun _ _ e => e)
  have q1 := conv_row w1.drew A n c l HL.out (hr.keep0 kd)
  have q2 := conv_row w1.drew B m d q HQ.out (hrb.keep0 kd)
  go_wp2
  go_region_held3 (fun w' => (convert 22 9 (.slice A n c)).run Tryd.prog w' = .ok (.string (str l)) w' ∧ (convert 22 9 (.slice B m d)).run Tryd.prog w' = .ok (.string (str q)) w' ∧ Kp nob w w')
    ((refine ⟨?_, ?_, ?_⟩ <;> first | assumption | exact conv_row _ A n c l HL.out (hr.keep0 (Kp.alloc k1 _).drew) | exact conv_row _ B m d q HQ.out (hrb.keep0 (Kp.alloc k1 _).drew) | exact (Kp.alloc k1 _).drew))
    (first
      | (go_at_call_of 16 (Value.slice B m d)
         obtain ⟨_, _, ka⟩ := ‹_ ∧ _ ∧ Kp nob w _›
         refine (HS.out _ (hr.keep0 ka) (hrb.keep0 ka)).mono ?_
         rintro e w2 ⟨rfl, rfl⟩)
      | (obtain ⟨_, _, ka⟩ := ‹_ ∧ _ ∧ Kp nob w _›
         refine step_appR (by rfl) (.tmp 31) (.tmp 32) 22 rfl 5 i0 (.int .u8 0) 1 u8s_under hi hz0 hz1 hz2 rfl _ 0 0 [] rfl ho A n c (bvs l) rfl hA HBL.out (hr.keep0 ka) (bvs_one l) (by omega) (by omega) ?_
         intro X cX w3 hX hgX habX
         have KK : Kp nob w w3 := Kp.grown ka hgX (fun k e => .inr (by cases e; exact k1.size))
         rw [Nat.zero_add, List.nil_append] at hX
         rw [Nat.zero_add]
         have RX := Lib.hid hX.row
         have q3 := conv_row w3 A n c l HL.out (hr.keep0 KK)
         have q4 := conv_row w3 B m d q HQ.out (hrb.keep0 KK)
         clear hX hgX habX ho)
      | (go_at_call 16
         obtain ⟨_, _, ka⟩ := ‹_ ∧ _ ∧ Kp nob w _›
         refine (same_self A n c l X cX _ HL.out (hr.keep0 ka) (by omega) RX.out).mono ?_
         rintro e w4 ⟨rfl, rfl⟩))
  clear q1 q2 q3 q4 ‹_ ∧ _ ∧ Kp nob w _›
  by_cases hin : 0 ≤ i ∧ i < n
  · obtain ⟨p, rfl⟩ : ∃ p : Nat, i = p := ⟨i.toNat, by omega⟩
    have hpn : p < n := by omega
    have d3 : decide ((p : Int) < 0) = false := by simp
    have d4 : decide ((n : Int) ≤ (p : Int)) = false := by simp; omega
    clear hin
    go_wp2_with (at_builtin
                 refine wpList_appR _ rfl (.tmp 45) (.tmp 46) 22 rfl 5 i0 (.int .u8 0) 1 u8s_under hi hz0 hz1 hz2 rfl _ 0 0 [] rfl (own_empty w3) A n c (bvs l) rfl hA HBL.out ((hr.keep0 KK).alloc _) (bvs_one l) (by omega) (by omega) ?_
                 intro Z cZ w5 hZ hgZ habZ
                 have K5 : Kp nob w w5 := (KK.alloc _).grown hgZ (fun k e => .inr (by cases e; exact KK.size))
                 have nZ : ∀ k, ab Z = some k → w.heap.size ≤ k := fun k e => by
                   rcases habZ with h | h <;> rw [h] at e <;> cases e
                   · exact KK.size
                   · have := KK.size; simp; omega
                 rw [Nat.zero_add, List.nil_append] at hZ
                 rw [Nat.zero_add]
                 obtain ⟨bz, rfl, hbz, hcz, hfz, hsz⟩ := hZ.at_ hpn
                 have hcz' : w5.cell? ⟨bz, p, none⟩ = some (.int .u8 (l[p]'(by rw [HL.out]; exact hpn)).toNat) := by rw [hcz]; simp [bvs, bv]
                 have HZ := Lib.hid hZ
                 have hcap := hZ.cap
                 have nZ2 := nZ bz rfl
                 clear hgZ habZ hcz hsz hZ nZ)
    have hpl : p < l.length := by rw [HL.out]; exact hpn
    have s1 := fun wx => slice_to A n c p (by omega) wx
    have K6 : Kp nob w (w5.setCell ⟨bz, p, none⟩ (bv (l[p] ^^^ j))) := K5.setCell (p := ⟨bz, p, none⟩) (.inr nZ2) _
    have hO := HZ.out.set p (bv (l[p] ^^^ j))
    rw [show (Value.int IntKind.u8 ((l[p].toNat ^^^ j.toNat : Nat) : Int)) = bv (l[p] ^^^ j) by simp [bv]]
    rw [bvs, bv, ← bv, ← List.map_set, ← bvs] at hO
    have hR6 := hO.row
    have HL2 : Hid ((l.set p (l[p] ^^^ j)).length = n) := Lib.hid (by rw [List.length_set, HL.out])
    have hrt : Row (w5.setCell ⟨bz, p, none⟩ (bv (l[p] ^^^ j))) A (bvs (l.take p)) := by
      have := (hr.keep0 K6).take p
      rwa [bvs, ← List.map_take, ← bvs] at this
    have HTL : Hid ((l.take p).length = p) := Lib.hid (by rw [List.length_take]; omega)
    have HTN : Hid (¬ l = l.take p) := Lib.hid (fun e => by have := congrArg List.length e; rw [HTL.out] at this; omega)
    by_cases hj : j = 0
    case' pos =>
      have d5 : ((j.toNat : Int) == 0) = true := by rw [hj]; rfl
      have HE : Hid (l.set p (l[p] ^^^ j) = l) := Lib.hid (by rw [hj]; simp)
      rw [HE.out] at hR6
      have HS1 := Lib.hid (same_self A n c l (some ⟨bz, 0, none⟩) cZ _ HL.out (hr.keep0 K6) (by omega) hR6)
      clear HE
    case' neg =>
      have d5 : ((j.toNat : Int) == 0) = false := by
        rw [beq_eq_false_iff_ne]; intro e
        apply hj; apply UInt8.toNat_inj.1
        have : j.toNat = 0 := by omega
        rw [this]; rfl
      have HE : Hid (¬ l = l.set p (l[p] ^^^ j)) := Lib.hid (fun e => by
        have h1 := congrArg (fun q : List UInt8 => q[p]?) e
        simp only [List.getElem?_eq_getElem hpl, List.getElem?_set_self hpl, Option.some.injEq] at h1
        exact hj (xor_own _ _ h1))
      have HS1 := Lib.hid (same_no A n c l (some ⟨bz, 0, none⟩) n cZ _ _ HL.out (hr.keep0 K6) (by omega) HL2.out hR6 (by omega) HE.out)
      clear HE
    all_goals
      generalize w5.setCell ⟨bz, p, none⟩ (bv (l[p] ^^^ j)) = w6 at *
      clear hj hO HZ hcz' hfz
      refine (HS1.out).mono ?_
      rintro e w7 ⟨rfl, rfl⟩
      clear HS1
      go_wp2_with (go_at_call 16
                   refine (same_no A n c l A p c (l.take p) _ HL.out (hr.keep0 K6) (by omega) HTL.out hrt (by omega) HTN.out).mono ?_
                   rintro e w8 ⟨rfl, rfl⟩)
      go_ret
      exact ⟨rfl, K6⟩
  · by_cases h0 : i < 0
    · have d3 : decide (i < 0) = true := by simp; omega
      go_wp2
      go_ret
      exact ⟨rfl, KK⟩
    · have d3 : decide (i < 0) = false := by simp; omega
      have d4 : decide ((n : Int) ≤ i) = true := by simp; omega
      go_wp2
      go_ret
      exact ⟨rfl, KK⟩
theorem same_walk (A : Option Addr) (n c : Nat) (l : List UInt8) (B : Option Addr) (m d : Nat) (q : List UInt8) (i j : Int) (w : World) (ht : Tabs w) (hl : l.length = n) (hA : A = none → c = 0) (hr : Row w A (bvs l)) (hc : n ≤ c) (hcm : c ≤ maxLen)
    (hq : q.length = m) (hB : B = none → d = 0) (hrb : Row w B (bvs q)) (hd : m ≤ d) (hdm : d ≤ maxLen) (_ : (Lit.int .i64 i).wf = true) (hj : (Lit.int .u8 j).wf = true) :
    Calls Tryd.prog 6 #[.slice A n c, .slice B m d, .int .i64 i, .int .u8 j] w fun e w' => e = .returned (.bool true) ∧ Kp nob w w' := by
  by_cases h : 4096 < n ∨ 4096 < m
  · exact same_long A n c B m d i j w ht (by omega) (by omega) h
  · have h2 : 0 ≤ j ∧ j < 256 := by
      have h3 : IntKind.u8.min ≤ j ∧ j ≤ IntKind.u8.max := by simpa [Lit.wf] using hj
      have h4 : IntKind.u8.min = 0 := by kernel_rfl
      have h5 : IntKind.u8.max = 255 := by kernel_rfl
      omega
    obtain ⟨x, rfl⟩ : ∃ x : UInt8, j = (x.toNat : Int) := ⟨UInt8.ofNat j.toNat, by simp; omega⟩
    by_cases e : l = q
    · subst e
      obtain rfl : n = m := hl.symm.trans hq
      exact same_eq A n c l B d i x w ht hl hc hA hr hq hB hrb (by omega) (by omega)
    · exact same_ne A n c l B m d q i x w ht hl hc hA hr hq hB hrb (by omega) (by omega) e
end Go.Proofs.YtdfpfiipcieabaaDoor.Hmac
