/- ShaEnds: at every length around the end of a block, the digest is the document's. -/
import Derived.Test.YtccdlchbfanmdaaDoorShaL
namespace Go.Proofs.YtccdlchbfanmdaaDoor.Sha
open Go Go.RowKit Kit

theorem made_zero (n : Nat) : madeCells #[(.int .u8 0 : Value)] n = (bvs (List.replicate n 0)).toArray := by
  apply Array.ext
  · simp [size_madeCells, bvs]
  · intro i h1 h2
    simp [madeCells, bvs, bv, Nat.mod_one]
theorem make_bytes (n : Nat) (hn : n ≤ 300) (w : World) : (Instr.makeSlice 24 (.int .i64 (n : Int)) (.int .i64 (n : Int))).run Tryd.prog w = .ok (.slice (some ⟨w.heap.size, 0, none⟩) n n) (w.alloc (.cells (bvs (List.replicate n 0)).toArray 5)) := by
  rw [← made_zero]
  exact run_make_row' 24 5 (.int .u8 0) 1 u8s_under u8s_info rfl .i64 .i64 n (by omega) (by omega) w
theorem bytes_of {xs : List Value} (h : ∀ u ∈ xs, ∃ x : UInt8, u = bv x) : ∃ l : List UInt8, xs = bvs l := by
  induction xs with
  | nil => exact ⟨[], rfl⟩
  | cons a xs ih =>
    obtain ⟨x, rfl⟩ := h a (by simp)
    obtain ⟨l, rfl⟩ := ih (fun u hu => h u (by simp [hu]))
    exact ⟨x :: l, rfl⟩

set_option maxHeartbeats 1000000 in
theorem ends_no (n s : Int) (w : World) (ht : Tabs w) (h : n < 0 ∨ 300 < n) :
    Calls Tryd.prog 4 #[.int .i64 n, .int .u8 s] w fun e w' => e = .returned (.bool true) ∧ Kp nob w w' := by
  by_cases h1 : n < 0
  · have d1 : decide (n < 0) = true := by simp; omega
    go_enter Tryd.func4, Tryd.ntmps4
    go_wp2_with fail
    refine (alive_yes _ ht).mono ?_
    rintro e w1 ⟨rfl, k1⟩
    go_wp2
    go_ret
    exact ⟨rfl, k1⟩
  · have d1 : decide (n < 0) = false := by simp; omega
    have d2 : decide (300 < n) = true := by simp; omega
    go_enter Tryd.func4, Tryd.ntmps4
    go_wp2_with fail
    refine (alive_yes _ ht).mono ?_
    rintro e w1 ⟨rfl, k1⟩
    go_wp2
    go_ret
    exact ⟨rfl, k1⟩

set_option maxHeartbeats 2000000 in
theorem ends_yes (n : Nat) (s : Int) (w : World) (ht : Tabs w) (hn : n ≤ 300) (hs0 : 0 ≤ s) (hs1 : s < 256) :
    Calls Tryd.prog 4 #[.int .i64 n, .int .u8 s] w fun e w' => e = .returned (.bool true) ∧ Kp nob w w' := by
  have d1 : decide ((n : Int) < 0) = false := by simp
  have d2 : decide (300 < (n : Int)) = false := by simp; omega
  have hmk := fun w => make_bytes n hn w
  go_enter Tryd.func4, Tryd.ntmps4
  go_wp2_with fail
  refine (alive_yes _ ht).mono ?_
  rintro e w1 ⟨rfl, k1⟩
  have ho := own_new w1 5 (bvs (List.replicate n 0)) (by simp [maxLen]; omega)
  rw [bvs_length, List.length_replicate] at ho
  have s2 : Kp nob w (w1.alloc (.cells (bvs (List.replicate n 0)).toArray 5)) := k1.alloc _
  have hz : ∀ u ∈ bvs (List.replicate n 0), ∃ x : UInt8, u = bv x := by
    intro u hu
    obtain ⟨x, _, rfl⟩ := List.mem_map.1 hu
    exact ⟨x, rfl⟩
  have hg := k1.size
  generalize bvs (List.replicate n 0) = xs0 at *
  go_wp2
  go_loopw [19] (fun i wr => ∃ (k : Nat) (xs : List Value), k ≤ n ∧ i = .int .i64 k ∧ Own 5 wr (some ⟨w1.heap.size, 0, none⟩) n n xs ∧ (∀ u ∈ xs, ∃ x : UInt8, u = bv x) ∧ Kp nob w wr)
    (fun i _ => n - (intOf i).toNat)
  case atStart => exact ⟨0, xs0, Nat.zero_le _, rfl, ho, hz, s2⟩
  case round =>
    obtain ⟨k, xs, hk, rfl, oM, hx, kr⟩ := hrel
    by_cases hlt : k < n
    · obtain ⟨bm, hbe, hbm, hcm, hfm, hsm⟩ := oM.at_ hlt
      obtain rfl : w1.heap.size = bm := by injection hbe with h; injection h
      obtain ⟨uk, huk⟩ : ∃ u, u = xs[k]'(by rw [oM.len]; exact hlt) := ⟨_, rfl⟩
      rw [← huk] at hcm
      clear hmk hbe huk
      go_wp2
      go_roundw
      case rel =>
        refine ⟨k + 1, _, by omega, by go_num, oM.set k _, ?_, ?_⟩
        · intro u hu
          rcases List.mem_or_eq_of_mem_set hu with hu | rfl
          · exact hx u hu
          · exact ⟨UInt8.ofNat ((s + k) % 256).toNat, by simp [bv]; omega⟩
        · exact kr.setCell (p := ⟨w1.heap.size, k, none⟩) (.inr hg) _
      case measure => simp [intOf]; omega
    · obtain ⟨l, rfl⟩ := bytes_of hx
      have hl : l.length = n := by simpa using oM.len
      have hq := eq_same l
      have T := ht.keep0 kr
      go_wp2_with fail
      refine (of_one ⟨some ⟨w1.heap.size, 0, none⟩, n, n, l⟩ wr 24 _ rfl T (pcs_one hl oM.row (.inr (fun _ _ e => e)) (Nat.le_refl _) (by simp [maxLen]; omega)) (by show l.length ≤ _; omega)).mono ?_
      rintro e w8 ⟨rfl, k8⟩
      go_wp2_with fail
      refine (fOf _ n n l _ hl (by omega) (by intro e; cases e) (oM.row.keep0 k8)).mono ?_
      rintro e w9 ⟨rfl, k9⟩
      go_wp2
      go_ret
      exact ⟨rfl, (kr.trans k8 (fun _ e => e.elim)).trans k9 (fun _ e => e.elim)⟩
theorem ends_any (n s : Int) (w : World) (ht : Tabs w) (_ : (Lit.int .i64 n).wf = true) (hs : (Lit.int .u8 s).wf = true) :
    Calls Tryd.prog 4 #[.int .i64 n, .int .u8 s] w fun e w' => e = .returned (.bool true) ∧ Kp nob w w' := by
  by_cases h : n < 0 ∨ 300 < n
  · exact ends_no n s w ht h
  · obtain ⟨a, rfl⟩ : ∃ a : Nat, n = a := ⟨n.toNat, by omega⟩
    have h2 : 0 ≤ s ∧ s < 256 := by
      have h3 : IntKind.u8.min ≤ s ∧ s ≤ IntKind.u8.max := by simpa [Lit.wf] using hs
      have h4 : IntKind.u8.min = 0 := by kernel_rfl
      have h5 : IntKind.u8.max = 255 := by kernel_rfl
      omega
    exact ends_yes a s w ht (by omega) h2.1 h2.2
end Go.Proofs.YtccdlchbfanmdaaDoor.Sha
