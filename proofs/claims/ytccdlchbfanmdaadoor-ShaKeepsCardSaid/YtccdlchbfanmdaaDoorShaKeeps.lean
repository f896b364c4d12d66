/- ShaKeeps: what is handed in stays, and isn't kept: the hash's state is its own. -/
import Derived.Test.YtccdlchbfanmdaaDoorShaL
namespace Go.Proofs.YtccdlchbfanmdaaDoor.Sha
open Go Go.RowKit Kit

theorem u8_string : Tryd.prog.underlying 9 = some .string := by kernel_rfl
theorem conv_row (w1 : World) (A2 : Option Addr) (n c : Nat) (l : List UInt8) (hn : l.length = n) (hr : Row w1 A2 (bvs l)) : (convert 24 9 (.slice A2 n c)).run Tryd.prog w1 = .ok (.string (str l)) w1 :=
  run_bytes_str w1 24 9 5 u8s_under (by kernel_rfl) u8_string A2 n c l hn hr

set_option maxHeartbeats 1000000 in
theorem keeps_long (A : Option Addr) (n c : Nat) (w : World) (ht : Tabs w) (hn : 4096 < n) (hm : n ≤ maxLen) :
    Calls Tryd.prog 7 #[.slice A n c] w fun e w' => e = .returned (.bool true) ∧ Kp nob w w' := by
  unfold maxLen at hm
  go_enter Tryd.func7, Tryd.ntmps7
  go_wp2_with fail
  refine (alive_yes _ ht).mono ?_
  rintro e w1 ⟨rfl, k1⟩
  go_wp2
  go_ret
  exact ⟨rfl, k1⟩

set_option maxHeartbeats 2000000 in
theorem keeps_short (A : Option Addr) (n c : Nat) (l : List UInt8) (w : World) (ht : Tabs w) (hl : l.length = n) (hn : n ≤ 4096) (hA : A = none → c = 0) (hr : Row w A (bvs l)) :
    Calls Tryd.prog 7 #[.slice A n c] w fun e w' => e = .returned (.bool true) ∧ Kp nob w w' := by
  obtain ⟨i0, hi, hz0, hz1, hz2⟩ := info_parts u8s_info
  have hq := eq_same l
  go_enter Tryd.func7, Tryd.ntmps7
  go_wp2_with fail
  refine (alive_yes _ ht).mono ?_
  rintro e w1 ⟨rfl, s1⟩
  have ho : Own 5 (w1.alloc (.cells #[] 5)) (some ⟨w1.heap.size, 0, none⟩) 0 0 [] := World.ownsRow_made w1 #[] 0 (Nat.zero_le _) (by simp [maxLen]) rfl
  have hr1 := (hr.keep0 s1).alloc (.cells #[] 5)
  go_wp2_with (at_builtin; refine wpList_appR _ rfl (.tmp 11) (.tmp 12) 24 rfl 5 i0 (.int .u8 0) 1 u8s_under hi hz0 hz1 hz2 rfl _ 0 0 [] rfl ho A n c (bvs l) rfl hA (by simp [hl]) hr1 (bvs_one l) (by omega) (by omega) ?_)
  intro M cM w2 hM hgM habM
  have s2 : Kp nob w w2 := (s1.alloc _).grown hgM (fun k e => .inr (by cases e; exact s1.size))
  have nM : ∀ k, ab M = some k → w.heap.size ≤ k := by
    intro k e
    rcases habM with h | h <;> rw [h] at e <;> cases e
    · exact s1.size
    · exact Nat.le_succ_of_le s1.size
  clear ho hr1 hgM habM
  go_wp2_with fail
  refine (new_any _ (ht.keep0 s2)).mono ?_
  rintro e w3 ⟨b, rfl, h3, k3, n3⟩
  have hM3 := hM.keep k3 (fun _ _ e => e)
  have s3 := s2.trans k3 (fun _ e => e.elim)
  have fM := hM.lt
  have hcM := hM.cap
  have fb : ∀ k, ab M = some k → k ≠ b := fun k e => by have := fM k e; omega
  go_wp2_with fail
  refine (write_one b [] ⟨M, n, cM, l⟩ w3 24 _ rfl h3 (ht.keep0 s3) ((ht.keep0 s2).far n3) (pcs_one hl hM3.row (.inr (fun k e => fb k e)) hcM.1 hcM.2) (by simp; omega)).mono ?_
  rintro e w4 ⟨rfl, h4, k4⟩
  rw [List.nil_append] at h4
  have s4 := s3.since k4 (fun k e => by have := s2.size; unfold oneB at e; omega)
  have hM4 := hM3.keep k4 (fun k e e' => fb k e e')
  have c1 := conv_row w4 M n cM l hl hM4.row
  have c2 := conv_row w4 A n c l hl (hr.keep0 s4)
  clear hM hM3 hq
  go_wp2
  go_loopw [26] (fun i wr => ∃ (k : Nat) (lm : List UInt8), k ≤ n ∧ i = .int .i64 k ∧ Own 5 wr M n cM (bvs lm) ∧ Kp (rowF M) w4 wr)
    (fun i _ => n - (intOf i).toNat)
  case atStart => exact ⟨0, l, Nat.zero_le _, rfl, hM4, Kp.refl _ _⟩
  case round =>
    obtain ⟨k, lm, hk, rfl, oM, kr⟩ := hrel
    by_cases hlt : k < n
    · obtain ⟨bm, rfl, hbm, hcm, hfm, hsm⟩ := oM.at_ hlt
      have hml : lm.length = n := by simpa using oM.len
      obtain ⟨xm, hxm⟩ : ∃ x, x = lm[k]'(by omega) := ⟨_, rfl⟩
      have hcm' : wr.cell? ⟨bm, k, none⟩ = some (.int .u8 xm.toNat) := by rw [hcm, hxm]; simp [bvs, bv]
      have hb1 := xm.toNat_lt
      clear hcm hxm c1 c2
      go_wp2
      go_roundw
      case rel =>
        refine ⟨k + 1, lm.set k (UInt8.ofNat (xm.toNat + 1)), by omega, by go_num, ?_, ?_⟩
        · rw [← bvs_set]
          exact oM.set k _
        · exact kr.setCell (p := ⟨bm, k, none⟩) (.inl rfl) _
      case measure => simp [intOf]; omega
    · have h7 := h4.keep kr (fun e => fb _ e rfl)
      have s7 := s4.since kr (fun k e => nM k e)
      have hA7 := hr.keep0 s7
      have hq := eq_same l
      have T7 := ht.keep0 s7
      have hl2 : l.length ≤ 1099511627776 := by omega
      go_wp2_with fail
      refine (sum_any b l wr h7 T7 hl2).mono ?_
      rintro e w8 ⟨rfl, k8⟩
      go_wp2_with fail
      refine (fOf A n c l _ hl (by omega) hA (hA7.keep0 k8)).mono ?_
      rintro e w9 ⟨rfl, k9⟩
      go_wp2
      go_ret
      exact ⟨rfl, (s7.trans k8 (fun _ e => e.elim)).trans k9 (fun _ e => e.elim)⟩

theorem keeps_any (A : Option Addr) (n c : Nat) (l : List UInt8) (w : World) (ht : Tabs w) (hl : l.length = n) (hA : A = none → c = 0) (hr : Row w A (bvs l)) (hc : n ≤ c) (hm : c ≤ maxLen) :
    Calls Tryd.prog 7 #[.slice A n c] w fun e w' => e = .returned (.bool true) ∧ Kp nob w w' := by
  by_cases hn : n ≤ 4096
  · exact keeps_short A n c l w ht hl hn hA hr
  · exact keeps_long A n c w ht (by omega) (by omega)
end Go.Proofs.YtccdlchbfanmdaaDoor.Sha
