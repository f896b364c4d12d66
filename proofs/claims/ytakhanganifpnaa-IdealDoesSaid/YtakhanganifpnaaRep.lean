/- Contract of the library's Repeat, of one byte. -/
import Derived.Test.YtakhanganifpnaaCat
import Derived.Test.YtakhanganifpnaaRegW
import Derived.Lib.MakeNoZero
import Derived.RegionTactic
namespace Go.Proofs.Ytakhanganifpnaa.Cat
set_option linter.unusedVariables false
set_option linter.unusedSimpArgs false
open Go Go.RowKit Kit

set_option maxHeartbeats 1000000 in
set_option maxRecDepth 100000 in
theorem mul64_one (n : Nat) (w : World) (hn : n ≤ 2147483648) :
    Calls Try.prog 45 #[.int .u64 1, .int .u64 n] w fun e w' => e = .returned (.tuple #[.int .u64 0, .int .u64 n]) ∧ w = w' := by
  have e0 : bits .and .u64 (1 : Int) 4294967295 = 1 := by have := bits_and_u64_nat 1 4294967295 (by omega) (by omega); simpa using this
  have e1 : bits .and .u64 (n : Int) 4294967295 = (n : Int) := by
    have := bits_and_u64_nat n 4294967295 (by omega) (by omega)
    rw [show (4294967295 : Nat) = 2 ^ 32 - 1 from rfl, Nat.and_two_pow_sub_one_eq_mod, Nat.mod_eq_of_lt (by omega)] at this
    simpa using this
  have e2 : (n : Int) / 4294967296 = 0 := by omega
  have e3 : (n : Int) % 18446744073709551616 = (n : Int) := by omega
  have e4 : bits .and .u64 (0 : Int) 4294967295 = 0 := by have := bits_and_u64_nat 0 4294967295 (by omega) (by omega); simpa using this
  go_enter Try.func45, Try.ntmps45
  go_wp2
  go_ret2
  exact ⟨rfl, rfl⟩
set_option maxHeartbeats 1000000 in
set_option maxRecDepth 100000 in
theorem mul_one (n : Nat) (w : World) (hn : n ≤ 2147483648) :
    Calls Try.prog 42 #[.int .u64 1, .int .u64 n] w fun e w' => e = .returned (.tuple #[.int .u64 0, .int .u64 n]) ∧ w = w' := by
  go_enter Try.func42, Try.ntmps42
  go_wp2_with (go_at_call 45; refine (mul64_one n _ hn).mono ?_; rintro e w' ⟨rfl, rfl⟩)
  go_ret2
  exact ⟨rfl, rfl⟩

theorem slice_hm (g n c : Nat) (hn : n ≤ c) (w : World) : (Instr.slice 34 (.slice (some ⟨g, 0, none⟩) n c) none (some (.int .i64 n)) (some (.int .i64 n))).run Try.prog w = .ok (.slice (some ⟨g, 0, none⟩) n n) w := by
  have he : Try.prog.elem 34 = 5 := by kernel_rfl
  rw [run_slice_hm w 34 (some ⟨g, 0, none⟩) n c (by kernel_rfl) .i64 .i64 n n (by omega) (by omega) (by omega), he, u8_size]
  simp [Result.andThen, sliced, cutA, Addr.add]
theorem rep_splice (x : UInt8) (k r : Nat) (rest : List Value) (hr : r ≤ rest.length) : splice (bvs (List.replicate k x) ++ rest) k (bvs (List.replicate r x)) = bvs (List.replicate (k + r) x) ++ rest.drop r := by
  have hk : (bvs (List.replicate k x)).length = k := by simp
  unfold splice
  rw [List.take_left' hk, bvs_length, List.length_replicate, ← List.replicate_append_replicate, bvs_append, List.append_assoc, List.drop_append, List.drop_of_length_le (by rw [hk]; omega), hk, Nat.add_sub_cancel_left, List.nil_append]
/-- The row so far: k bytes of it. -/
structure Sofar (w : World) (n : Nat) (x : UInt8) (k : Nat) (w2 : World) : Prop where
  b : ∃ rest, Blk w2 w.heap.size 5 (bvs (List.replicate k x) ++ rest) ∧ n ≤ k + rest.length
  kp : Kp nob w w2
theorem Sofar.more {w w2 w3 : World} {n k r : Nat} {x : UInt8} (rest : List Value) (hl : n ≤ k + rest.length) (h : Kp nob w w2) (hr : k + r ≤ n) (hB : Blk w3 w.heap.size 5 (splice (bvs (List.replicate k x) ++ rest) k (bvs (List.replicate r x)))) (k3 : Kp (oneB w.heap.size) w2 w3) : Sofar w n x (k + r) w3 :=
  ⟨⟨rest.drop r, by rw [← rep_splice x k r rest (by omega)]; exact hB, by rw [List.length_drop]; omega⟩, h.since k3 (fun i e => by cases e; exact Nat.le_refl _)⟩
theorem Sofar.row {w w2 : World} {n k : Nat} {x : UInt8} (h : Sofar w n x k w2) : Row w2 (some ⟨w.heap.size, 0, none⟩) (bvs (List.replicate k x)) := by
  obtain ⟨rest, h1, h2⟩ := h.b
  have := h1.row.take k
  rwa [List.take_left' (by simp)] at this

set_option maxHeartbeats 4000000 in
set_option maxRecDepth 100000 in
theorem rep_small (A : Option Addr) (c n : Nat) (x : UInt8) (w0 : World) (hr : Row w0 A [bv x]) (hc : 1 ≤ c) (h0 : 0 < n) (hn : n ≤ 2147483648) (hb : n ≤ 8192) :
    Calls Try.prog 37 #[.slice A 1 c, .int .i64 n] w0 fun e w' => ∃ g, e = .returned (.slice (some ⟨g, 0, none⟩) n n) ∧ Row w' (some ⟨g, 0, none⟩) (bvs (List.replicate n x)) ∧ Kp nob w0 w' ∧ w0.heap.size ≤ g := by
  have z0 : ¬ ((n : Int) = 0) := by omega
  have z1 : ¬ ((n : Int) < 0) := by omega
  have z2 : (n : Int) % 18446744073709551616 = (n : Int) := by omega
  have z3 : ¬ ((9223372036854775807 : Int) < (n : Int)) := by omega
  have z4 : wrap64 (n : Int) = (n : Int) := by simp only [wrap64]; omega
  have z5 : ¬ ((8192 : Int) < (n : Int)) := by omega
  go_enter Try.func37, Try.ntmps37
  obtain ⟨cs, hrunM, hle, hmax⟩ := Lib.run_makeNoZero (P := Try.prog) w0 #[3] 34 5 u8s_under n (by omega)
  have hcall : (callFunc 43 #[.int .i64 (n : Int)]).run Try.prog w0 = .ok (.value (.slice (some ⟨w0.heap.size, 0, none⟩) n cs.size)) ((w0.alloc (.cells cs 5)).drewN 2) := by
    rw [run_callFunc_extern Try.func43 (by kernel_rfl) (by kernel_rfl) (by kernel_rfl) (e := Extern.BytealgMakeNoZero.makeNoZero #[3] #[34]) (by kernel_rfl), hrunM]
    rfl
  have hsl := slice_hm w0.heap.size n cs.size hle
  have HB : Hid (Sofar w0 n x 1 ((w0.alloc (.cells cs 5)).drewN 2) → True) := Lib.hid (fun _ => trivial)
  have hcs : cs.toList.length = cs.size := by simp
  have HK0 := Lib.hid (((Kp.refl nob w0).alloc (.cells cs 5)).drewN 2)
  have HB0 : Hid (Blk ((w0.alloc (.cells cs 5)).drewN 2) w0.heap.size 5 (bvs (List.replicate 0 x) ++ cs.toList)) := Lib.hid (show Blk (w0.alloc (.cells cs 5)) w0.heap.size 5 (bvs (List.replicate 0 x) ++ cs.toList) from Blk.new' rfl (by simp [bvs]))
  have HL0 : Hid (n ≤ 0 + cs.toList.length) := Lib.hid (by omega)
  have HFIT : Hid (0 + (bvs (List.replicate 1 x)).length ≤ (bvs (List.replicate 0 x) ++ cs.toList).length) := Lib.hid (by simp; omega)
  have HMIN : Hid ((bvs (List.replicate 1 x)).length = Nat.min 1 n) := Lib.hid (by show _ = min 1 n; rw [Nat.min_eq_left h0]; simp)
  have HR0 : Hid (Row ((w0.alloc (.cells cs 5)).drewN 2) A (bvs (List.replicate 1 x))) := Lib.hid (hr.keep0 HK0.out)
  clear hrunM hle hmax hcs hr HB
  have hzz := And.intro z0 (And.intro z1 (And.intro z3 z5))
  go_wp2_with (first
    | (go_at_call 42; refine (mul_one n _ hn).mono ?_; rintro e w' ⟨rfl, rfl⟩)
    | (refine wpList_copy_blk rfl (.tmp 58) (.tmp 59) 34 34 rfl 5 u8s_under (by kernel_rfl) w0.heap.size 0 _ _ _ _ _ _ rfl rfl _ 5 HB0.out (bvs (List.replicate 1 x)) HMIN.out (fun _ => rfl) HR0.out HFIT.out (bvs_one _) ?_
       intro w2 hB2 k2 z2'
       have HS := Lib.hid (Sofar.more (n := n) (k := 0) (r := 1) _ HL0.out HK0.out (by omega) hB2 k2)
       clear hB2 k2 z2'))
  go_loopw [10, 11] (fun i z wr => ∃ k : Nat, 1 ≤ k ∧ k ≤ n ∧ i = .int .i64 k ∧ Hid (Sofar w0 n x k wr)) (fun i _ _ => n - (intOf i).toNat)
  case atStart => exact ⟨1, Nat.le_refl _, h0, by simp, Lib.hid (by simpa using HS.out)⟩
  case round =>
    obtain ⟨k, hk1, hk, rfl, HK⟩ := hrel
    by_cases hlt : k < n
    · obtain ⟨_, hq⟩ : ∃ q : Nat, k = min k n := ⟨0, by omega⟩
      obtain ⟨r, hr⟩ : ∃ r, r = min k (n - k) := ⟨_, rfl⟩
      obtain ⟨rest, hB, hL⟩ := HK.out.b
      have hqn : k ≤ n := by omega
      have hs1 := slice_from (some ⟨w0.heap.size, 0, none⟩) n n k hk
      have hs2 := slice_to (some ⟨w0.heap.size, 0, none⟩) n n k hqn
      have HMIN2 : Hid ((bvs (List.replicate r x)).length = Nat.min k (n - k)) := Lib.hid (by show _ = min k (n - k); simpa using hr)
      have HROW : Hid (Row wr.drew (some ⟨w0.heap.size, 0, none⟩) (bvs (List.replicate r x))) := Lib.hid (by
        have := HK.out.row.take r
        rw [bvs, ← List.map_take, List.take_replicate, Nat.min_eq_left (by omega)] at this
        exact this.keep0 (Kp.refl nob wr).drew)
      have HBD : Hid (Blk wr.drew w0.heap.size 5 (bvs (List.replicate k x) ++ rest)) := Lib.hid hB
      have HFIT2 : Hid (k + (bvs (List.replicate r x)).length ≤ (bvs (List.replicate k x) ++ rest).length) := Lib.hid (by simp; omega)
      have HAD : Hid (cutA (some ⟨w0.heap.size, 0, none⟩) n k = some ⟨w0.heap.size, k, none⟩) := Lib.hid (by
        unfold cutA
        rw [if_neg (by omega)]
        simp [Addr.add]; omega)
      rw [HAD.out] at hs1
      have HLL := Lib.hid hL
      have HRK : Hid (k + r ≤ n ∧ 1 ≤ r) := Lib.hid (by omega)
      have hkr : (bvs (List.replicate r x)).length = r := by simp
      have HKR := Lib.hid hkr
      have HQ := Lib.hid (And.intro hq hr)
      have HW : Hid (IntKind.i64.wrap ((k : Int) + (r : Int)) = (k : Int) + (r : Int)) := Lib.hid (by rw [IntKind.wrap_i64]; omega)
      have hkn : (k : Int) < (n : Int) := by omega
      clear hB hL hq hr hkr hqn
      go_wp2_with fail
      refine reg_begin (fun _ => True) (by kernel_rfl) trivial (fun _ => ?_)
      refine reg_take (v := .int .i64 k) 0 (some 67) rfl rfl (by kernel_rfl) (by kernel_rfl) (by kernel_rfl) (by rfl) trivial (fun w hw => by go_simp) ?_
      simp only [Act.put, List.setIfInBounds_toArray, List.set_cons_zero, List.set_cons_succ]
      refine reg_take (v := .slice (some ⟨w0.heap.size, 0, none⟩) n n) 1 (some 68) rfl rfl (by kernel_rfl) (by kernel_rfl) (by kernel_rfl) (by rfl) trivial (fun w hw => by go_simp) ?_
      simp only [Act.put, List.setIfInBounds_toArray, List.set_cons_zero, List.set_cons_succ]
      refine reg_take (v := .int .i64 k) 2 (some 69) rfl rfl (by kernel_rfl) (by kernel_rfl) (by kernel_rfl) (by rfl) trivial (fun w hw => by go_simp) ?_
      simp only [Act.put, List.setIfInBounds_toArray, List.set_cons_zero, List.set_cons_succ]
      refine reg_take (v := .slice (some ⟨w0.heap.size, k, none⟩) (n - k) (n - k)) 3 (some 70) rfl rfl (by kernel_rfl) (by kernel_rfl) (by kernel_rfl) (by rfl) trivial (fun w hw => by go_simp) ?_
      simp only [Act.put, List.setIfInBounds_toArray, List.set_cons_zero, List.set_cons_succ]
      refine reg_take (v := .slice (some ⟨w0.heap.size, 0, none⟩) n n) 4 (some 71) rfl rfl (by kernel_rfl) (by kernel_rfl) (by kernel_rfl) (by rfl) trivial (fun w hw => by go_simp) ?_
      simp only [Act.put, List.setIfInBounds_toArray, List.set_cons_zero, List.set_cons_succ]
      refine reg_take (v := .int .i64 k) 5 (some 72) rfl rfl (by kernel_rfl) (by kernel_rfl) (by kernel_rfl) (by rfl) trivial (fun w hw => by go_simp) ?_
      simp only [Act.put, List.setIfInBounds_toArray, List.set_cons_zero, List.set_cons_succ]
      refine reg_take (v := .slice (some ⟨w0.heap.size, 0, none⟩) k n) 6 (some 73) rfl rfl (by kernel_rfl) (by kernel_rfl) (by kernel_rfl) (by rfl) trivial (fun w hw => by go_simp) ?_
      simp only [Act.put, List.setIfInBounds_toArray, List.set_cons_zero, List.set_cons_succ]
      refine reg_copy 7 (some 74) (.tmp 70) (.tmp 73) 34 34 rfl rfl rfl (by kernel_rfl) rfl 5 u8s_under (by kernel_rfl) w0.heap.size k _ _ _ _ _ _ rfl rfl _ 5 HBD.out (bvs (List.replicate r x)) HMIN2.out (fun _ => rfl) HROW.out HFIT2.out (bvs_one _) ?_
      intro w2 hB2 k2 z2'
      rw [HKR.out]
      refine ⟨trivial, fun _ => ?_⟩
      simp only [Act.put, List.setIfInBounds_toArray, List.set_cons_zero, List.set_cons_succ]
      refine reg_take (v := .int .i64 ((k : Int) + (r : Int))) 8 (some 75) rfl rfl (by kernel_rfl) (by kernel_rfl) (by kernel_rfl) (by rfl) trivial (fun w hw => by go_simp; exact HW.out) ?_
      simp only [Act.put, List.setIfInBounds_toArray, List.set_cons_zero, List.set_cons_succ]
      refine reg_take (v := .int .i64 ((k : Int) + (r : Int))) 9 (some 10) rfl rfl (by kernel_rfl) (by kernel_rfl) (by kernel_rfl) (by rfl) trivial (fun w hw => by go_simp) ?_
      simp only [Act.put, List.setIfInBounds_toArray, List.set_cons_zero, List.set_cons_succ]
      refine reg_end (by kernel_rfl) ?_
      have HS2 := Lib.hid (Sofar.more (n := n) (k := k) (r := r) _ HLL.out HK.out.kp.drew HRK.out.1 hB2 k2)
      clear hB2 k2 z2'
      have hm1 : n - ((k : Int) + (r : Int)).toNat < n - (k : Int).toNat := by have := HRK.out; omega
      refine ⟨?_, by simpa [intOf] using hm1⟩
      repeat apply Exists.intro
      refine ⟨⟨k + r, by omega, HRK.out.1, by go_num, HS2⟩, rfl⟩
    · obtain rfl : n = k := by omega
      go_wp2
      go_ret
      exact ⟨_, rfl, HK.out.row, HK.out.kp, Nat.le_refl _⟩

set_option maxHeartbeats 4000000 in
set_option maxRecDepth 100000 in
theorem rep_big (A : Option Addr) (c n : Nat) (x : UInt8) (w0 : World) (hr : Row w0 A [bv x]) (hc : 1 ≤ c) (h0 : 0 < n) (hn : n ≤ 2147483648) (hb : 8192 < n) :
    Calls Try.prog 37 #[.slice A 1 c, .int .i64 n] w0 fun e w' => ∃ g, e = .returned (.slice (some ⟨g, 0, none⟩) n n) ∧ Row w' (some ⟨g, 0, none⟩) (bvs (List.replicate n x)) ∧ Kp nob w0 w' ∧ w0.heap.size ≤ g := by
  have z0 : ¬ ((n : Int) = 0) := by omega
  have z1 : ¬ ((n : Int) < 0) := by omega
  have z2 : (n : Int) % 18446744073709551616 = (n : Int) := by omega
  have z3 : ¬ ((9223372036854775807 : Int) < (n : Int)) := by omega
  have z4 : wrap64 (n : Int) = (n : Int) := by simp only [wrap64]; omega
  have z5 : (8192 : Int) < (n : Int) := by omega
  go_enter Try.func37, Try.ntmps37
  obtain ⟨cs, hrunM, hle, hmax⟩ := Lib.run_makeNoZero (P := Try.prog) w0 #[3] 34 5 u8s_under n (by omega)
  have hcall : (callFunc 43 #[.int .i64 (n : Int)]).run Try.prog w0 = .ok (.value (.slice (some ⟨w0.heap.size, 0, none⟩) n cs.size)) ((w0.alloc (.cells cs 5)).drewN 2) := by
    rw [run_callFunc_extern Try.func43 (by kernel_rfl) (by kernel_rfl) (by kernel_rfl) (e := Extern.BytealgMakeNoZero.makeNoZero #[3] #[34]) (by kernel_rfl), hrunM]
    rfl
  have hsl := slice_hm w0.heap.size n cs.size hle
  have HB : Hid (Sofar w0 n x 1 ((w0.alloc (.cells cs 5)).drewN 2) → True) := Lib.hid (fun _ => trivial)
  have hcs : cs.toList.length = cs.size := by simp
  have HK0 := Lib.hid (((Kp.refl nob w0).alloc (.cells cs 5)).drewN 2)
  have HB0 : Hid (Blk ((w0.alloc (.cells cs 5)).drewN 2) w0.heap.size 5 (bvs (List.replicate 0 x) ++ cs.toList)) := Lib.hid (show Blk (w0.alloc (.cells cs 5)) w0.heap.size 5 (bvs (List.replicate 0 x) ++ cs.toList) from Blk.new' rfl (by simp [bvs]))
  have HL0 : Hid (n ≤ 0 + cs.toList.length) := Lib.hid (by omega)
  have HFIT : Hid (0 + (bvs (List.replicate 1 x)).length ≤ (bvs (List.replicate 0 x) ++ cs.toList).length) := Lib.hid (by simp; omega)
  have HMIN : Hid ((bvs (List.replicate 1 x)).length = Nat.min 1 n) := Lib.hid (by show _ = min 1 n; rw [Nat.min_eq_left h0]; simp)
  have HR0 : Hid (Row ((w0.alloc (.cells cs 5)).drewN 2) A (bvs (List.replicate 1 x))) := Lib.hid (hr.keep0 HK0.out)
  clear hrunM hle hmax hcs hr HB
  have hzz := And.intro z0 (And.intro z1 (And.intro z3 z5))
  go_wp2_with (first
    | (go_at_call 42; refine (mul_one n _ hn).mono ?_; rintro e w' ⟨rfl, rfl⟩)
    | (refine wpList_copy_blk rfl (.tmp 58) (.tmp 59) 34 34 rfl 5 u8s_under (by kernel_rfl) w0.heap.size 0 _ _ _ _ _ _ rfl rfl _ 5 HB0.out (bvs (List.replicate 1 x)) HMIN.out (fun _ => rfl) HR0.out HFIT.out (bvs_one _) ?_
       intro w2 hB2 k2 z2'
       have HS := Lib.hid (Sofar.more (n := n) (k := 0) (r := 1) _ HL0.out HK0.out (by omega) hB2 k2)
       clear hB2 k2 z2'))
  go_loopw [10, 11] (fun i z wr => ∃ k : Nat, 1 ≤ k ∧ k ≤ n ∧ i = .int .i64 k ∧ Hid (Sofar w0 n x k wr)) (fun i _ _ => n - (intOf i).toNat)
  case atStart => exact ⟨1, Nat.le_refl _, h0, by simp, Lib.hid (by simpa using HS.out)⟩
  case round =>
    obtain ⟨k, hk1, hk, rfl, HK⟩ := hrel
    by_cases hlt : k < n
    · obtain ⟨q, hq⟩ : ∃ q, q = min k 8192 := ⟨_, rfl⟩
      have hmn : (if (8192 : Int) < (k : Int) then (8192 : Int) else (k : Int)) = (q : Int) := by split <;> omega
      obtain ⟨r, hr⟩ : ∃ r, r = min q (n - k) := ⟨_, rfl⟩
      obtain ⟨rest, hB, hL⟩ := HK.out.b
      have hqn : q ≤ n := by omega
      have hs1 := slice_from (some ⟨w0.heap.size, 0, none⟩) n n k hk
      have hs2 := slice_to (some ⟨w0.heap.size, 0, none⟩) n n q hqn
      have HMIN2 : Hid ((bvs (List.replicate r x)).length = Nat.min q (n - k)) := Lib.hid (by show _ = min q (n - k); simpa using hr)
      have HROW : Hid (Row wr.drew (some ⟨w0.heap.size, 0, none⟩) (bvs (List.replicate r x))) := Lib.hid (by
        have := HK.out.row.take r
        rw [bvs, ← List.map_take, List.take_replicate, Nat.min_eq_left (by omega)] at this
        exact this.keep0 (Kp.refl nob wr).drew)
      have HBD : Hid (Blk wr.drew w0.heap.size 5 (bvs (List.replicate k x) ++ rest)) := Lib.hid hB
      have HFIT2 : Hid (k + (bvs (List.replicate r x)).length ≤ (bvs (List.replicate k x) ++ rest).length) := Lib.hid (by simp; omega)
      have HAD : Hid (cutA (some ⟨w0.heap.size, 0, none⟩) n k = some ⟨w0.heap.size, k, none⟩) := Lib.hid (by
        unfold cutA
        rw [if_neg (by omega)]
        simp [Addr.add]; omega)
      rw [HAD.out] at hs1
      have HLL := Lib.hid hL
      have HRK : Hid (k + r ≤ n ∧ 1 ≤ r) := Lib.hid (by omega)
      have hkr : (bvs (List.replicate r x)).length = r := by simp
      have HKR := Lib.hid hkr
      have HQ := Lib.hid (And.intro hq hr)
      have HW : Hid (IntKind.i64.wrap ((k : Int) + (r : Int)) = (k : Int) + (r : Int)) := Lib.hid (by rw [IntKind.wrap_i64]; omega)
      have hkn : (k : Int) < (n : Int) := by omega
      clear hB hL hq hr hkr hqn
      go_wp2_with fail
      refine reg_begin (fun _ => True) (by kernel_rfl) trivial (fun _ => ?_)
      refine reg_take (v := .int .i64 k) 0 (some 67) rfl rfl (by kernel_rfl) (by kernel_rfl) (by kernel_rfl) (by rfl) trivial (fun w hw => by go_simp) ?_
      simp only [Act.put, List.setIfInBounds_toArray, List.set_cons_zero, List.set_cons_succ]
      refine reg_take (v := .slice (some ⟨w0.heap.size, 0, none⟩) n n) 1 (some 68) rfl rfl (by kernel_rfl) (by kernel_rfl) (by kernel_rfl) (by rfl) trivial (fun w hw => by go_simp) ?_
      simp only [Act.put, List.setIfInBounds_toArray, List.set_cons_zero, List.set_cons_succ]
      refine reg_take (v := .int .i64 k) 2 (some 69) rfl rfl (by kernel_rfl) (by kernel_rfl) (by kernel_rfl) (by rfl) trivial (fun w hw => by go_simp) ?_
      simp only [Act.put, List.setIfInBounds_toArray, List.set_cons_zero, List.set_cons_succ]
      refine reg_take (v := .slice (some ⟨w0.heap.size, k, none⟩) (n - k) (n - k)) 3 (some 70) rfl rfl (by kernel_rfl) (by kernel_rfl) (by kernel_rfl) (by rfl) trivial (fun w hw => by go_simp) ?_
      simp only [Act.put, List.setIfInBounds_toArray, List.set_cons_zero, List.set_cons_succ]
      refine reg_take (v := .slice (some ⟨w0.heap.size, 0, none⟩) n n) 4 (some 71) rfl rfl (by kernel_rfl) (by kernel_rfl) (by kernel_rfl) (by rfl) trivial (fun w hw => by go_simp) ?_
      simp only [Act.put, List.setIfInBounds_toArray, List.set_cons_zero, List.set_cons_succ]
      refine reg_take (v := .int .i64 q) 5 (some 72) rfl rfl (by kernel_rfl) (by kernel_rfl) (by kernel_rfl) (by rfl) trivial (fun w hw => by go_simp) ?_
      simp only [Act.put, List.setIfInBounds_toArray, List.set_cons_zero, List.set_cons_succ]
      refine reg_take (v := .slice (some ⟨w0.heap.size, 0, none⟩) q n) 6 (some 73) rfl rfl (by kernel_rfl) (by kernel_rfl) (by kernel_rfl) (by rfl) trivial (fun w hw => by go_simp) ?_
      simp only [Act.put, List.setIfInBounds_toArray, List.set_cons_zero, List.set_cons_succ]
      refine reg_copy 7 (some 74) (.tmp 70) (.tmp 73) 34 34 rfl rfl rfl (by kernel_rfl) rfl 5 u8s_under (by kernel_rfl) w0.heap.size k _ _ _ _ _ _ rfl rfl _ 5 HBD.out (bvs (List.replicate r x)) HMIN2.out (fun _ => rfl) HROW.out HFIT2.out (bvs_one _) ?_
      intro w2 hB2 k2 z2'
      rw [HKR.out]
      refine ⟨trivial, fun _ => ?_⟩
      simp only [Act.put, List.setIfInBounds_toArray, List.set_cons_zero, List.set_cons_succ]
      refine reg_take (v := .int .i64 ((k : Int) + (r : Int))) 8 (some 75) rfl rfl (by kernel_rfl) (by kernel_rfl) (by kernel_rfl) (by rfl) trivial (fun w hw => by go_simp; exact HW.out) ?_
      simp only [Act.put, List.setIfInBounds_toArray, List.set_cons_zero, List.set_cons_succ]
      refine reg_take (v := .int .i64 ((k : Int) + (r : Int))) 9 (some 10) rfl rfl (by kernel_rfl) (by kernel_rfl) (by kernel_rfl) (by rfl) trivial (fun w hw => by go_simp) ?_
      simp only [Act.put, List.setIfInBounds_toArray, List.set_cons_zero, List.set_cons_succ]
      refine reg_end (by kernel_rfl) ?_
      have HS2 := Lib.hid (Sofar.more (n := n) (k := k) (r := r) _ HLL.out HK.out.kp.drew HRK.out.1 hB2 k2)
      clear hB2 k2 z2'
      have hm1 : n - ((k : Int) + (r : Int)).toNat < n - (k : Int).toNat := by have := HRK.out; omega
      refine ⟨?_, by simpa [intOf] using hm1⟩
      repeat apply Exists.intro
      refine ⟨⟨k + r, by omega, HRK.out.1, by go_num, HS2⟩, rfl⟩
    · obtain rfl : n = k := by omega
      go_wp2
      go_ret
      exact ⟨_, rfl, HK.out.row, HK.out.kp, Nat.le_refl _⟩

/-- ONE BYTE, OVER AND OVER. -/
theorem rep_any (A : Option Addr) (c n : Nat) (x : UInt8) (w : World) (hr : Row w A [bv x]) (hc : 1 ≤ c) (h0 : 0 < n) (hn : n ≤ 2147483648) :
    Calls Try.prog 37 #[.slice A 1 c, .int .i64 n] w fun e w' => ∃ g, e = .returned (.slice (some ⟨g, 0, none⟩) n n) ∧ Row w' (some ⟨g, 0, none⟩) (bvs (List.replicate n x)) ∧ Kp nob w w' ∧ w.heap.size ≤ g := by
  by_cases hb : n ≤ 8192
  · exact rep_small A c n x w hr hc h0 hn hb
  · exact rep_big A c n x w hr hc h0 hn (by omega)
end Go.Proofs.Ytakhanganifpnaa.Cat
