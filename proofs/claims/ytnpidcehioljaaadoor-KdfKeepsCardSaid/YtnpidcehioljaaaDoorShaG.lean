/- Contracts of the document's own digest: the bytes behind, the digest. -/
import Derived.Test.YtnpidcehioljaaaDoorShaF
namespace Go.Proofs.YtnpidcehioljaaaDoor.Sha
open Go Go.RowKit Kit

theorem own_new (w : World) (e : TypeId) (xs : List Value) (hm : xs.length ≤ maxLen) : Own e (w.alloc (.cells xs.toArray e)) (some ⟨w.heap.size, 0, none⟩) xs.length xs.length xs :=
  ⟨by simp, .inr ⟨w.heap.size, xs.length, xs.toArray, rfl, Nat.zero_le _, heap_alloc_new w _, Nat.le_refl _, hm, by simp, by simp⟩⟩
theorem own_one (w : World) (e : TypeId) (v : Value) : Own e (w.alloc (.cells #[v] e)) (some ⟨w.heap.size, 0, none⟩) 1 1 [v] := own_new w e [v] (by simp [maxLen])
theorem own_none {e : TypeId} {w : World} {A : Option Addr} {n c : Nat} {xs : List Value} (h : Own e w A n c xs) : A = none → c = 0 := by
  rintro rfl
  rcases h.2 with ⟨h1, _⟩ | ⟨g, cap, cur, h1, _⟩
  · injection h1
  · injection h1 with h1; cases h1
theorem u8s_info : (Tryd.prog.info? 5).map (fun i => (i.zero, i.size, i.bytes)) = some (some (.int .u8 0), 1, 1) := by kernel_rfl

/-- n behind i steps. -/
def cut8 (n i : Nat) : Nat := if i = 0 then n else n / 32 / 256 ^ (i - 1)
theorem cut8_next (n i : Nat) : (if i = 0 then cut8 n i / 32 else cut8 n i / 256) = cut8 n (i + 1) := by
  unfold cut8
  by_cases h : i = 0
  · simp [h]
  · rw [if_neg h, if_neg h, if_neg (by omega), Nat.div_div_eq_div_mul, ← Nat.pow_succ, show (i - 1).succ = i + 1 - 1 by omega]
theorem cut8_byte (n i : Nat) (h : i ≠ 0) : (cut8 n i) % 256 = (8 * n / 256 ^ i) % 256 := by
  unfold cut8
  rw [if_neg h]
  obtain ⟨j, rfl⟩ : ∃ j, i = j + 1 := ⟨i - 1, by omega⟩
  have e : 256 ^ (j + 1) = 8 * (32 * 256 ^ j) := by rw [Nat.pow_succ]; omega
  rw [e, Nat.mul_div_mul_left _ _ (by omega), Nat.div_div_eq_div_mul]
  rfl
theorem cut8_le (n i : Nat) : cut8 n i ≤ n := by
  unfold cut8; split
  · omega
  · exact Nat.le_trans (Nat.div_le_self _ _) (Nat.div_le_self _ _)

set_option maxHeartbeats 2000000 in
theorem fPadded (A : Option Addr) (n c : Nat) (l : List UInt8) (w : World) (hn : l.length = n) (hl : n ≤ 1099511627776) (hA : A = none → c = 0) (hr : Row w A (bvs l)) :
    Calls Tryd.prog 21 #[.slice A n c] w fun e w' => ∃ A' c', e = .returned (.slice A' (padded l).length c') ∧ Own 5 w' A' (padded l).length c' (bvs (padded l)) ∧ Kp nob w w' ∧ (∀ k, ab A' = some k → w.heap.size ≤ k) := by
  obtain ⟨i0, hi, hz0, hz1, hz2⟩ := info_parts u8s_info
  have hr1 : Row (w.alloc (.cells #[] 5)) A (bvs l) := hr.keep0 ((Kp.refl _ _).alloc _)
  have ho : Own 5 (w.alloc (.cells #[] 5)) (some ⟨w.heap.size, 0, none⟩) 0 0 [] := World.ownsRow_made w #[] 0 (Nat.zero_le _) (by simp [maxLen]) rfl
  go_enter Tryd.func21, Tryd.ntmps21
  go_wp2_with (first
    | (at_builtin
       refine wpList_appR _ rfl (.tmp 7) (.tmp 8) 22 rfl 5 i0 (.int .u8 0) 1 u8s_under hi hz0 hz1 hz2 rfl _ 0 0 [] rfl ho A n c (bvs l) rfl hA (by simp [hn]) hr1 (bvs_one l) (by omega) (by omega) ?_
       intro A2 c2 w2 hown2 hg2 hab2
       have K2 : Kp nob w w2 := ((Kp.refl nob w).alloc _).grown hg2 (fun k e => .inr (by cases e; exact Nat.le_refl _))
       have g2 : ∀ k, ab A2 = some k → w.heap.size ≤ k := fun k e => by rcases hab2 with h | h <;> rw [h] at e <;> cases e <;> simp
       have o2 : Own 5 w2 A2 n c2 (bvs l) := by simpa using hown2
       clear hg2 hab2 hown2)
    | (at_builtin
       refine wpList_appR _ rfl (.tmp 9) (.tmp 10) 22 rfl 5 i0 (.int .u8 0) 1 u8s_under hi hz0 hz1 hz2 rfl A2 n c2 (bvs l) rfl (o2.alloc _) (some ⟨w2.heap.size, 0, none⟩) 1 1 [bv 128] rfl (fun h => by cases h) rfl (row_one w2 (bv 128) _) (by intro u hu; simp at hu; subst hu; rfl) (by omega) (by omega) ?_
       intro A3 c3 w3 hown3 hg3 hab3
       have K3 : Kp nob w w3 := (K2.alloc _).grown hg3 (fun k e => .inr (g2 k e))
       have g3 : ∀ k, ab A3 = some k → w.heap.size ≤ k := fun k e => by
         rcases hab3 with h | h <;> rw [h] at e
         · exact g2 k e
         · cases e; simp; have := K2.size; omega
       have o3 : Hid (Own 5 w3 A3 (n + 1) c3 (bvs (l ++ 128 :: List.replicate 0 0))) := Lib.hid (by rw [bvs_append]; exact hown3)
       clear hg3 hab3 hown3))
  obtain ⟨Z, hZ⟩ : ∃ Z, Z = (119 - n % 64) % 64 := ⟨_, rfl⟩
  have hZ1 : Z ≤ 63 := by omega
  have HZ := Lib.hid hZ; clear hZ
  go_loopw [3] (fun v wr => ∃ (k : Nat) (A' : Option Addr) (c' : Nat), k ≤ Z ∧ v = .slice A' (n + 1 + k) c' ∧ Own 5 wr A' (n + 1 + k) c' (bvs (l ++ 128 :: List.replicate k 0)) ∧ Kp nob w wr ∧ ∀ j, ab A' = some j → w.heap.size ≤ j)
    (fun v _ => match v with | .slice _ m _ => n + 1 + Z - m | _ => 0)
  case atStart => exact ⟨0, A3, c3, by omega, rfl, o3.out, K3, g3⟩
  case round =>
    clear o3 K3 g3
    obtain ⟨k, A', c', hk, rfl, ho', hkp, hg'⟩ := hrel
    have HO := Lib.hid ho'; clear ho'
    by_cases hlt : k < Z
    · have hmod : ((((n : Int) + 1 + k) % 64) != 56) = true := by rw [bne_iff_ne]; have := HZ.out; omega
      go_wp2_with (first
        | (at_builtin
           refine wpList_appR _ rfl (.tmp 16) (.tmp 17) 22 rfl 5 i0 (.int .u8 0) 1 u8s_under hi hz0 hz1 hz2 rfl A' (n + 1 + k) c' (bvs (l ++ 128 :: List.replicate k 0)) rfl (HO.out.alloc _) (some ⟨wr.heap.size, 0, none⟩) 1 1 [bv 0] rfl (fun h => by cases h) rfl (row_one wr (bv 0) _) (by intro u hu; simp at hu; subst hu; rfl) (by omega) (by omega) ?_
           intro A4 c4 w4 hown4 hg4 hab4
           have K4 : Kp nob w w4 := (hkp.alloc _).grown hg4 (fun k e => .inr (hg' k e))
           have g4 : ∀ k, ab A4 = some k → w.heap.size ≤ k := fun k e => by
             rcases hab4 with h | h <;> rw [h] at e
             · exact hg' k e
             · cases e; simp; have := hkp.size; omega
           have o4 : Hid (Own 5 w4 A4 (n + 1 + (k + 1)) c4 (bvs (l ++ 128 :: List.replicate (k + 1) 0))) := Lib.hid (by
             rw [List.replicate_succ', ← List.cons_append, ← List.append_assoc, bvs_append]; exact hown4)
           clear hg4 hab4 hown4))
      refine ⟨⟨k + 1, A4, c4, by omega, rfl, o4.out, K4, g4⟩, ?_⟩
      show n + 1 + Z - (n + 1 + k + 1) < n + 1 + Z - (n + 1 + k)
      omega
    · have hmod : ((((n : Int) + 1 + k) % 64) != 56) = false := by have := HZ.out; rw [bne_eq_false_iff_eq]; omega
      have HK : Hid (k = Z) := Lib.hid (by omega)
      go_wp2
      go_loopw [4, 5, 6] (fun vn vt vi wr => ∃ (i q : Nat) (T : Option Addr) (cT : Nat), i ≤ 8 ∧ vi = .int .i64 i ∧ q = cut8 n i ∧ vn = .int .i64 q ∧ vt = .slice T i cT ∧ Own 5 wr T i cT (bvs (le i (8 * n)).reverse) ∧ Own 5 wr A' (n + 1 + k) c' (bvs (l ++ 128 :: List.replicate k 0)) ∧ Kp nob w wr)
        (fun _ _ vi _ => 8 - (intOf vi).toNat)
      case atStart => exact ⟨0, n, none, 0, by omega, rfl, rfl, rfl, rfl, Own.nil _ _, HO.out, hkp⟩
      case round =>
        clear HO hkp
        obtain ⟨i, q, T, cT, hi8, rfl, hq, rfl, rfl, hoT, hoA, hkp⟩ := hrel
        have hqn : q ≤ n := by rw [hq]; exact cut8_le n i
        have HQ := Lib.hid hq; have HT := Lib.hid hoT; have HA := Lib.hid hoA
        have ltA := hoA.lt
        clear hq hoT hoA
        by_cases hi1 : i < 8
        · by_cases h0 : i = 0
          · have hq0 : ((i : Int) == 0) = true := by rw [beq_iff_eq]; omega
            have H00 := Lib.hid h0; clear h0
            go_wp2_with (first
              | (at_builtin
                 refine wpList_appR _ rfl (.tmp 31) (.tmp 32) 22 rfl 5 i0 (.int .u8 0) 1 u8s_under hi hz0 hz1 hz2 rfl (some ⟨wr.heap.size, 0, none⟩) 1 1 [.int .u8 ((q : Int) % 32 * 8)] rfl (own_one wr _ _) T i cT (bvs (le i (8 * n)).reverse) rfl (own_none HT.out) (by simp) (HT.out.row.alloc _) (bvs_one _) (by omega) (by omega) ?_
                 intro A5 c5 w5 hown5 hg5 hab5
                 have K5 : Kp nob w w5 := (hkp.alloc _).grown hg5 (fun k e => .inr (by cases e; exact hkp.size))
                 have o5 : Hid (Own 5 w5 A5 (i + 1) c5 (bvs (le (i + 1) (8 * n)).reverse)) := Lib.hid (by
                   rw [Nat.add_comm 1 i] at hown5
                   rw [le_snoc, List.reverse_append, List.reverse_singleton, bvs_append]
                   have e : bvs [UInt8.ofNat (8 * n / 256 ^ i)] = [.int .u8 ((q : Int) % 32 * 8)] := by
                     show [bv _] = _
                     rw [bv_ofNat]
                     congr 2
                     have := HQ.out; have h := H00.out; subst h; simp [cut8] at this; subst this; simp; omega
                   rw [e]; exact hown5)
                 have a5 : Hid (Own 5 w5 A' (n + 1 + k) c' (bvs (l ++ 128 :: List.replicate k 0))) := Lib.hid
                   ((HA.out.alloc _).keep (F := fun j => j = wr.heap.size) ((Kp.refl _ _).grown hg5 (fun j e => .inl (by cases e; rfl))) (fun j e e' => by have := ltA j e; omega))
                 clear hg5 hab5 hown5))
            refine ⟨?rel, by simp [intOf]; omega⟩
            case rel =>
              refine ⟨i + 1, _, A5, c5, by omega, by go_num, ?_, rfl, congrArg (fun x => Value.slice A5 x c5) (Nat.add_comm 1 i), o5.out, a5.out, K5⟩
              have := cut8_next n i
              rw [if_pos H00.out, ← HQ.out] at this; exact this
          · have hq0 : ((i : Int) == 0) = false := by rw [beq_eq_false_iff_ne]; omega
            go_wp2_with (first
              | (at_builtin
                 refine wpList_appR _ rfl (.tmp 39) (.tmp 40) 22 rfl 5 i0 (.int .u8 0) 1 u8s_under hi hz0 hz1 hz2 rfl (some ⟨wr.heap.size, 0, none⟩) 1 1 [.int .u8 ((q : Int) % 256)] rfl (own_one wr _ _) T i cT (bvs (le i (8 * n)).reverse) rfl (own_none HT.out) (by simp) (HT.out.row.alloc _) (bvs_one _) (by omega) (by omega) ?_
                 intro A5 c5 w5 hown5 hg5 hab5
                 have K5 : Kp nob w w5 := (hkp.alloc _).grown hg5 (fun k e => .inr (by cases e; exact hkp.size))
                 have o5 : Hid (Own 5 w5 A5 (i + 1) c5 (bvs (le (i + 1) (8 * n)).reverse)) := Lib.hid (by
                   rw [Nat.add_comm 1 i] at hown5
                   rw [le_snoc, List.reverse_append, List.reverse_singleton, bvs_append]
                   have e : bvs [UInt8.ofNat (8 * n / 256 ^ i)] = [.int .u8 ((q : Int) % 256)] := by
                     show [bv _] = _
                     rw [bv_ofNat]
                     congr 2
                     have := HQ.out; have h2 := cut8_byte n i (by rintro rfl; simp at hq0); rw [← this] at h2; have := congrArg (fun x : Nat => (x : Int)) h2; simp only [Int.natCast_emod] at this; exact this.symm
                   rw [e]; exact hown5)
                 have a5 : Hid (Own 5 w5 A' (n + 1 + k) c' (bvs (l ++ 128 :: List.replicate k 0))) := Lib.hid
                   ((HA.out.alloc _).keep (F := fun j => j = wr.heap.size) ((Kp.refl _ _).grown hg5 (fun j e => .inl (by cases e; rfl))) (fun j e e' => by have := ltA j e; omega))
                 clear hg5 hab5 hown5))
            refine ⟨?rel, by simp [intOf]; omega⟩
            case rel =>
              refine ⟨i + 1, _, A5, c5, by omega, by go_num, ?_, rfl, congrArg (fun x => Value.slice A5 x c5) (Nat.add_comm 1 i), o5.out, a5.out, K5⟩
              have := cut8_next n i
              rw [if_neg (by rintro rfl; simp at hq0), ← HQ.out] at this; exact this
        · have HI : Hid (i = 8) := Lib.hid (by omega)
          go_wp2_with (first
            | (at_builtin
               refine wpList_appR _ rfl (.tmp 44) (.tmp 45) 22 rfl 5 i0 (.int .u8 0) 1 u8s_under hi hz0 hz1 hz2 rfl A' (n + 1 + k) c' _ rfl HA.out T i cT (bvs (le i (8 * n)).reverse) rfl (own_none HT.out) (by simp) HT.out.row (bvs_one _) (by omega) (by omega) ?_
               intro A6 c6 w6 hown6 hg6 hab6
               have K6 : Kp nob w w6 := hkp.grown hg6 (fun k e => .inr (hg' k e))
               have g6 : ∀ k, ab A6 = some k → w.heap.size ≤ k := fun k e => by
                 rcases hab6 with h | h <;> rw [h] at e
                 · exact hg' k e
                 · cases e; exact hkp.size
               have hp : Hid (l ++ 128 :: List.replicate k 0 ++ (le i (8 * n)).reverse = padded l) := Lib.hid (by
                 rw [padded_eq, tail, hn, HI.out, HK.out, HZ.out, List.append_assoc])
               have hpl : Hid (n + 1 + k + i = (padded l).length) := Lib.hid (by
                 have := congrArg List.length hp.out; rw [← this]; simp [hn]; omega)
               have o6 := Lib.hid hown6
               clear hg6 hab6 hown6))
          go_ret
          refine ⟨A6, c6, by rw [← hpl.out]; rfl, ?_, K6, g6⟩
          have := o6.out
          rwa [← bvs_append, hp.out, hpl.out] at this
end Go.Proofs.YtnpidcehioljaaaDoor.Sha
