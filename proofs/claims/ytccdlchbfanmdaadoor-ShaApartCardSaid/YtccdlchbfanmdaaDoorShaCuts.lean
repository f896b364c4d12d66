/- ShaCuts: bytes that are cut anywhere into three have the digest of them whole. -/
import Derived.Test.YtccdlchbfanmdaaDoorShaL
import Derived.Test.YtccdlchbfanmdaaDoorStill
import Derived.Deep.RegionWith
namespace Go.Proofs.YtccdlchbfanmdaaDoor.Sha
open Go Go.RowKit Kit

set_option maxHeartbeats 1000000 in
theorem cuts_no (A : Option Addr) (n c : Nat) (i j : Int) (w : World) (ht : Tabs w) (hn : n ≤ maxLen) (h : 8192 < n ∨ i < 0 ∨ j < i ∨ (n : Int) < j) :
    Calls Tryd.prog 6 #[.slice A n c, .int .i64 i, .int .i64 j] w fun e w' => e = .returned (.bool true) ∧ Kp nob w w' := by
  unfold maxLen at hn
  by_cases h1 : 8192 < n
  · have d1 : decide ((8192 : Int) < (n : Int)) = true := by simp; omega
    go_enter Tryd.func6, Tryd.ntmps6
    go_wp2_with fail
    refine (alive_yes _ ht).mono ?_
    rintro e w1 ⟨rfl, k1⟩
    go_wp2
    go_ret
    exact ⟨rfl, k1⟩
  · have d1 : decide ((8192 : Int) < (n : Int)) = false := by simp; omega
    by_cases h2 : i < 0
    · have d2 : decide (i < 0) = true := by simp; omega
      go_enter Tryd.func6, Tryd.ntmps6
      go_wp2_with fail
      refine (alive_yes _ ht).mono ?_
      rintro e w1 ⟨rfl, k1⟩
      go_wp2
      go_ret
      exact ⟨rfl, k1⟩
    · have d2 : decide (i < 0) = false := by simp; omega
      by_cases h3 : j < i
      · have d3 : decide (j < i) = true := by simp; omega
        go_enter Tryd.func6, Tryd.ntmps6
        go_wp2_with fail
        refine (alive_yes _ ht).mono ?_
        rintro e w1 ⟨rfl, k1⟩
        go_wp2
        go_ret
        exact ⟨rfl, k1⟩
      · have d3 : decide (j < i) = false := by simp; omega
        have d4 : decide ((n : Int) < j) = true := by simp; omega
        go_enter Tryd.func6, Tryd.ntmps6
        go_wp2_with fail
        refine (alive_yes _ ht).mono ?_
        rintro e w1 ⟨rfl, k1⟩
        go_wp2
        go_ret
        exact ⟨rfl, k1⟩

theorem u8_size : ∀ w, (sizeOf 5).run Tryd.prog w = .ok 1 w := fun _ => by kernel_rfl
theorem slice_to (A : Option Addr) (n c i : Nat) (hi : i ≤ c) (w : World) : (Instr.slice 24 (.slice A n c) none (some (.int .i64 i)) none).run Tryd.prog w = .ok (.slice A i c) w := by
  have he : Tryd.prog.elem 24 = 5 := by kernel_rfl
  rw [run_slice_h w 24 A n c (by kernel_rfl) .i64 i (by omega) (by omega), he, u8_size]
  cases A <;> simp [Result.andThen, sliced, Addr.add]
theorem slice_of (A : Option Addr) (n c i j : Nat) (hi : i ≤ j) (hj : j ≤ c) (w : World) : (Instr.slice 24 (.slice A n c) (some (.int .i64 i)) (some (.int .i64 j)) none).run Tryd.prog w = .ok (.slice (cutA A c i) (j - i) (c - i)) w := by
  have he : Tryd.prog.elem 24 = 5 := by kernel_rfl
  rw [run_slice_lh w 24 A n c (by kernel_rfl) .i64 .i64 i j (by omega) (by omega) (by omega), he, u8_size]
  simp [Result.andThen, sliced, cutA]

set_option maxHeartbeats 2000000 in
theorem cuts_yes (A : Option Addr) (n c : Nat) (l : List UInt8) (i j : Nat) (w : World) (ht : Tabs w) (hl : l.length = n) (hA : A = none → c = 0) (hr : Row w A (bvs l)) (hc : n ≤ c) (hm : c ≤ maxLen) (hn : n ≤ 8192) (hij : i ≤ j) (hjn : j ≤ n) :
    Calls Tryd.prog 6 #[.slice A n c, .int .i64 i, .int .i64 j] w fun e w' => e = .returned (.bool true) ∧ Kp nob w w' := by
  have d1 : decide ((8192 : Int) < (n : Int)) = false := by simp; omega
  have d2 : decide ((i : Int) < 0) = false := by simp
  have d3 : decide ((j : Int) < (i : Int)) = false := by simp; omega
  have d4 : decide ((n : Int) < (j : Int)) = false := by simp; omega
  have hq := eq_same l
  have s1 := fun wx => slice_to A n c i (by omega) wx
  have s2 := fun wx => slice_of A n c i j hij (by omega) wx
  have s3 := fun wx => run_slice_from (P := Tryd.prog) 24 5 u8s_under u8_size A n c j hjn wx
  obtain ⟨ps, hps⟩ : ∃ ps : List Pc, ps = [⟨A, i, c, l.take i⟩, ⟨cutA A c i, j - i, c - i, (l.drop i).take (j - i)⟩, ⟨none, 0, 0, []⟩, ⟨cutA A c j, n - j, c - j, l.drop j⟩] := ⟨_, rfl⟩
  have hcat : catP ps = l := by
    rw [hps]; simp only [catP, List.flatMap_cons, List.flatMap_nil, List.nil_append, List.append_nil]
    rw [← List.append_assoc]
    have e1 : l.take i ++ (l.drop i).take (j - i) = l.take j := by
      rw [← List.take_add, show i + (j - i) = j by omega]
    rw [e1, List.take_append_drop]
  have hvs : ps.map Pc.v = [.slice A i c, .slice (cutA A c i) (j - i) (c - i), .slice none 0 0, .slice (cutA A c j) (n - j) (c - j)] := by rw [hps]; rfl
  have hok : ∀ w', Kp nob w w' → PcsOk w' nob ps := fun w' k => by
    have h1 := hr.keep0 k
    intro p hp
    rw [hps] at hp
    simp only [List.mem_cons, List.not_mem_nil, or_false] at hp
    have g1 := h1.take i
    have g2 := (h1.cut (c := c) (k := i) (by simp; omega)).take (j - i)
    have g3 := h1.cut (c := c) (k := j) (by simp; omega)
    rcases hp with rfl | rfl | rfl | rfl
    · exact ⟨by simp; omega, by simpa [bvs] using g1, .inr (fun _ _ e => e), by show i ≤ c; omega, hm⟩
    · exact ⟨by simp; omega, by simpa [bvs] using g2, .inr (fun _ _ e => e), by show j - i ≤ c - i; omega, by show c - i ≤ maxLen; omega⟩
    · exact ⟨rfl, Row.nil _ _, .inl rfl, Nat.le_refl _, by simp [maxLen]⟩
    · exact ⟨by simp; omega, by simpa [bvs] using g3, .inr (fun _ _ e => e), by show n - j ≤ c - j; omega, by show c - j ≤ maxLen; omega⟩
  have hlen : ps.length = 4 := by rw [hps]; rfl
  have HC := Lib.hid hcat; have HV := Lib.hid hvs; have HO := Lib.hid hok; have HLEN := Lib.hid hlen; have HL := Lib.hid hl
  clear hps hcat hvs hok hlen hl
  generalize cutA A c i = A1 at s2 HV
  generalize cutA A c j = A3 at s3 HV
  obtain ⟨n2, hn2⟩ : ∃ x, x = j - i := ⟨_, rfl⟩
  obtain ⟨c2, hc2⟩ : ∃ x, x = c - i := ⟨_, rfl⟩
  obtain ⟨n3, hn3⟩ : ∃ x, x = n - j := ⟨_, rfl⟩
  obtain ⟨c3, hc3⟩ : ∃ x, x = c - j := ⟨_, rfl⟩
  rw [← hn2, ← hc2] at s2
  rw [← hn3, ← hc3] at s3
  rw [← hn2, ← hc2, ← hn3, ← hc3] at HV
  clear hn2 hc2 hn3 hc3
  go_enter Tryd.func6, Tryd.ntmps6
  go_wp2_with fail
  refine (alive_yes _ ht).mono ?_
  rintro e w1 ⟨rfl, k1⟩
  go_wp2
  obtain ⟨K, hK⟩ : ∃ W1 : World, W1 = (w1.alloc (.cells #[.slice A i c, .slice A1 n2 c2, .slice none 0 0, .slice A3 n3 c3] 24)).drew := ⟨_, rfl⟩
  have kW : Kp nob w K := hK ▸ (k1.alloc _).drew
  have rW : Row K (some ⟨w1.heap.size, 0, none⟩) (ps.map Pc.v) := by
    rw [hK, HV.out]
    exact (row_new w1 [.slice A i c, .slice A1 n2 c2, .slice none 0 0, .slice A3 n3 c3] 24).keep0 (Kp.refl nob _).drew
  have oW := HO.out K kW
  clear HO HV
  have H1 := Lib.hid hK
  clear hK
  go_region_with (first
    | (go_at_call 11
       rw [← H1.out]
       refine (of_any _ 4 4 ps K (ht.keep0 kW) HLEN.out rW oW (by omega) (by rw [HC.out, HL.out]; omega)).mono ?_
       rintro e w4 ⟨rfl, k4⟩
       rw [HC.out])
    | (go_at_call 12
       refine (fOf A n c l _ HL.out (by omega) hA (hr.keep0 (kW.trans k4 (fun _ e => e.elim)))).mono ?_
       rintro e w5 ⟨rfl, k5⟩))
  go_wp2
  go_ret
  exact ⟨rfl, (kW.trans k4 (fun _ e => e.elim)).trans k5 (fun _ e => e.elim)⟩
theorem cuts_any (A : Option Addr) (n c : Nat) (l : List UInt8) (i j : Int) (w : World) (ht : Tabs w) (hl : l.length = n) (hA : A = none → c = 0) (hr : Row w A (bvs l)) (hc : n ≤ c) (hm : c ≤ maxLen) :
    Calls Tryd.prog 6 #[.slice A n c, .int .i64 i, .int .i64 j] w fun e w' => e = .returned (.bool true) ∧ Kp nob w w' := by
  by_cases h : 8192 < n ∨ i < 0 ∨ j < i ∨ (n : Int) < j
  · exact cuts_no A n c i j w ht (by omega) h
  · obtain ⟨a, rfl⟩ : ∃ a : Nat, i = a := ⟨i.toNat, by omega⟩
    obtain ⟨b, rfl⟩ : ∃ b : Nat, j = b := ⟨j.toNat, by omega⟩
    exact cuts_yes A n c l a b w ht hl hA hr hc hm (by omega) (by omega) (by omega)
theorem cuts_walk (A : Option Addr) (n c : Nat) (l : List UInt8) (i j : Int) (w : World) (ht : Tabs w) (hl : l.length = n) (hA : A = none → c = 0) (hr : Row w A (bvs l)) (hc : n ≤ c) (hm : c ≤ maxLen) (_ : (Lit.int .i64 i).wf = true) (_ : (Lit.int .i64 j).wf = true) :
    Calls Tryd.prog 6 #[.slice A n c, .int .i64 i, .int .i64 j] w fun e w' => e = .returned (.bool true) ∧ Kp nob w w' := cuts_any A n c l i j w ht hl hA hr hc hm
end Go.Proofs.YtccdlchbfanmdaaDoor.Sha
