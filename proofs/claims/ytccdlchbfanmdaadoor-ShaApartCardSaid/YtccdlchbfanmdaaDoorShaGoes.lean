/- ShaGoes: a hash goes on after each Sum; a hash that is nil does nothing. -/
import Derived.Test.YtccdlchbfanmdaaDoorShaCuts
import Derived.Deep.RegionWith
namespace Go.Proofs.YtccdlchbfanmdaaDoor.Sha
open Go Go.RowKit Kit

theorem write_nil (v : Value) (w : World) : Calls Tryd.prog 14 #[.pointer none, v] w fun e w' => e = .returned (.tuple #[]) ∧ Kp nob w w' := by
  go_enter Tryd.func14, Tryd.ntmps14
  go_wp2
  exact bodyPost_ret (results_none rfl _ _ _) rfl ⟨rfl, Kp.refl _ _⟩
theorem size_nil (w : World) : Calls Tryd.prog 16 #[.pointer none] w fun e w' => e = .returned (.int .i64 0) ∧ Kp nob w w' := by
  go_enter Tryd.func16, Tryd.ntmps16
  go_wp2
  go_ret
  exact ⟨rfl, Kp.refl _ _⟩
def zero32 : List UInt8 := List.replicate 32 0
theorem eq_zero (w : World) : (Op.equalIn 10000 27 (.agg (bvs zero32).toArray) (.agg (bvs zero32).toArray)).run Tryd.prog w = .ok true w := by
  rw [eq32 _ _ rfl rfl]; simp
theorem zero_lit : #[Value.int IntKind.u8 0, Value.int IntKind.u8 0, Value.int IntKind.u8 0, Value.int IntKind.u8 0, Value.int IntKind.u8 0, Value.int IntKind.u8 0, Value.int IntKind.u8 0, Value.int IntKind.u8 0, Value.int IntKind.u8 0, Value.int IntKind.u8 0, Value.int IntKind.u8 0, Value.int IntKind.u8 0, Value.int IntKind.u8 0, Value.int IntKind.u8 0, Value.int IntKind.u8 0, Value.int IntKind.u8 0, Value.int IntKind.u8 0, Value.int IntKind.u8 0, Value.int IntKind.u8 0, Value.int IntKind.u8 0, Value.int IntKind.u8 0, Value.int IntKind.u8 0, Value.int IntKind.u8 0, Value.int IntKind.u8 0, Value.int IntKind.u8 0, Value.int IntKind.u8 0, Value.int IntKind.u8 0, Value.int IntKind.u8 0, Value.int IntKind.u8 0, Value.int IntKind.u8 0, Value.int IntKind.u8 0, Value.int IntKind.u8 0] = (bvs zero32).toArray := by kernel_rfl
theorem eq_lit (w : World) : (Op.equalIn 10000 27 (.agg (bvs zero32).toArray) (.agg #[Value.int IntKind.u8 0, Value.int IntKind.u8 0, Value.int IntKind.u8 0, Value.int IntKind.u8 0, Value.int IntKind.u8 0, Value.int IntKind.u8 0, Value.int IntKind.u8 0, Value.int IntKind.u8 0, Value.int IntKind.u8 0, Value.int IntKind.u8 0, Value.int IntKind.u8 0, Value.int IntKind.u8 0, Value.int IntKind.u8 0, Value.int IntKind.u8 0, Value.int IntKind.u8 0, Value.int IntKind.u8 0, Value.int IntKind.u8 0, Value.int IntKind.u8 0, Value.int IntKind.u8 0, Value.int IntKind.u8 0, Value.int IntKind.u8 0, Value.int IntKind.u8 0, Value.int IntKind.u8 0, Value.int IntKind.u8 0, Value.int IntKind.u8 0, Value.int IntKind.u8 0, Value.int IntKind.u8 0, Value.int IntKind.u8 0, Value.int IntKind.u8 0, Value.int IntKind.u8 0, Value.int IntKind.u8 0, Value.int IntKind.u8 0])).run Tryd.prog w = .ok true w := by
  rw [zero_lit]; exact eq_zero w
set_option maxHeartbeats 1000000 in
theorem sum_nil (w : World) : Calls Tryd.prog 15 #[.pointer none] w fun e w' => e = .returned (.agg (bvs zero32).toArray) ∧ Kp nob w w' := by
  go_enter Tryd.func15, Tryd.ntmps15
  go_wp2_with (first
    | (refine wpList_built rfl 27 _ rfl (.agg (bvs zero32).toArray) (by kernel_rfl) ?_)
    | (refine wpList_store_new rfl 27 (.tmp 2) (.tmp 6) rfl _ (bvs zero32) rfl rfl (by kernel_rfl) (by kernel_rfl) (bvs_one _) ?_
       intro w5 hB5 k5 z5))
  have hsz5 : (Tryd.prog.info? 27).map (·.size) = some (bvs zero32).toArray.size := by kernel_rfl
  refine bodyPost_ret (results_cell_row rfl _ _ w.heap.size _ _ _ _ rfl hB5 arr32b rfl hsz5) rfl ⟨rfl, k5⟩

set_option maxHeartbeats 1000000 in
theorem goes_many (A : Option Addr) (m c : Nat) (w : World) (ht : Tabs w) (hm2 : 200 < m) (hmm : m ≤ maxLen) :
    Calls Tryd.prog 5 #[.slice A m c] w fun e w' => e = .returned (.bool true) ∧ Kp nob w w' := by
  go_enter Tryd.func5, Tryd.ntmps5
  go_wp2_with fail
  refine (alive_yes _ ht).mono ?_
  rintro e w1 ⟨rfl, k1⟩
  go_wp2_with fail
  refine (joined_many A m c _ hm2 hmm).mono ?_
  rintro e w2 ⟨rfl, k2⟩
  go_wp2
  go_ret
  exact ⟨rfl, k1.trans k2 (fun _ e => e.elim)⟩
set_option maxHeartbeats 1000000 in
theorem goes_long (A : Option Addr) (m c : Nat) (ps : List Pc) (w : World) (ht : Tabs w) (hm : ps.length = m) (hr : Row w A (ps.map Pc.v)) (hp : PcsOk w nob ps) (hA : ∀ p ∈ ps, p.A = none → p.c = 0) (hn : ∀ p ∈ ps, p.n ≤ 140737488355328) (hm2 : m ≤ 200) (hl : 8192 < (catP ps).length) :
    Calls Tryd.prog 5 #[.slice A m c] w fun e w' => e = .returned (.bool true) ∧ Kp nob w w' := by
  go_enter Tryd.func5, Tryd.ntmps5
  go_wp2_with fail
  refine (alive_yes _ ht).mono ?_
  rintro e w1 ⟨rfl, k1⟩
  go_wp2_with fail
  refine (joined_long A m c ps _ hm (hr.keep0 k1) (hp.keep0 k1) hA hn hm2 hl).mono ?_
  rintro e w2 ⟨rfl, k2⟩
  go_wp2
  go_ret
  exact ⟨rfl, k1.trans k2 (fun _ e => e.elim)⟩
set_option maxHeartbeats 1000000 in
theorem goes_mid (A : Option Addr) (m c : Nat) (ps : List Pc) (w : World) (ht : Tabs w) (hm : ps.length = m) (hr : Row w A (ps.map Pc.v)) (hp : PcsOk w nob ps) (hA : ∀ p ∈ ps, p.A = none → p.c = 0) (hm2 : m ≤ 200) (hl : (catP ps).length ≤ 8192) (h20 : 20 < m) :
    Calls Tryd.prog 5 #[.slice A m c] w fun e w' => e = .returned (.bool true) ∧ Kp nob w w' := by
  have d1 : decide ((20 : Int) < (m : Int)) = true := by simp; omega
  go_enter Tryd.func5, Tryd.ntmps5
  go_wp2_with fail
  refine (alive_yes _ ht).mono ?_
  rintro e w1 ⟨rfl, k1⟩
  go_wp2_with fail
  refine (joined_yes A m c ps _ hm (hr.keep0 k1) (hp.keep0 k1) hA hm2 hl).mono ?_
  rintro e w2 ⟨B, cB, rfl, hB, k2, g2⟩
  go_wp2
  go_ret
  exact ⟨rfl, k1.trans k2 (fun _ e => e.elim)⟩
theorem catP_split (ps : List Pc) (k : Nat) : catP ps = catP (ps.take k) ++ catP (ps.drop k) := by
  unfold catP; rw [← List.flatMap_append, List.take_append_drop]
theorem bvs_take (l : List UInt8) (k : Nat) : (bvs l).take k = bvs (l.take k) := by simp [bvs]
theorem catP_all (ps : List Pc) (k : Nat) (h : ps.length ≤ k) : catP (ps.take k) = catP ps := by rw [List.take_of_length_le h]
set_option maxHeartbeats 2000000 in
theorem goes_yes (A : Option Addr) (m c : Nat) (ps : List Pc) (w : World) (ht : Tabs w) (hm : ps.length = m) (hr : Row w A (ps.map Pc.v)) (hp : PcsOk w nob ps) (hA : ∀ p ∈ ps, p.A = none → p.c = 0) (hl : (catP ps).length ≤ 8192) (h20 : m ≤ 20) :
    Calls Tryd.prog 5 #[.slice A m c] w fun e w' => e = .returned (.bool true) ∧ Kp nob w w' := by
  have d1 : decide ((20 : Int) < (m : Int)) = false := by simp; omega
  go_enter Tryd.func5, Tryd.ntmps5
  go_wp2_with fail
  refine (alive_yes _ ht).mono ?_
  rintro e w1 ⟨rfl, k1⟩
  go_wp2_with fail
  refine (joined_yes A m c ps _ hm (hr.keep0 k1) (hp.keep0 k1) hA (by omega) hl).mono ?_
  rintro e w2 ⟨B, cB, rfl, hB, k2, g2⟩
  have K2 := k1.trans k2 (fun _ e => e.elim)
  have T2 := ht.keep0 K2
  obtain ⟨N, hN⟩ : ∃ N, N = (catP ps).length := ⟨_, rfl⟩
  rw [← hN] at hB hl ⊢
  have HN := Lib.hid hN
  clear hN
  go_wp2_with fail
  refine (new_any _ T2).mono ?_
  rintro e w3 ⟨b, rfl, h3, k3, n3⟩
  have K3 := K2.trans k3 (fun _ e => e.elim)
  have T3 := ht.keep0 K3
  go_wp2_with fail
  refine (new_any _ T3).mono ?_
  rintro e w4 ⟨b2, rfl, h4, k4, n4⟩
  have K4 := K3.trans k4 (fun _ e => e.elim)
  have T4 := ht.keep0 K4
  have h3' := h3.keep k4 (fun e => e)
  have hB4 := (hB.keep k3 (fun _ _ e => e)).keep k4 (fun _ _ e => e)
  have r4 := hr.keep0 K4
  have f1 : Far b := T2.far n3
  have f2 : Far b2 := T3.far n4
  have hlt := h3.lt
  have hbb : b ≠ b2 := by omega
  have hwb : w.heap.size ≤ b := Nat.le_trans K2.size n3
  have hwb2 : w.heap.size ≤ b2 := Nat.le_trans K3.size n4
  have fB : ∀ k, ab B = some k → k ≠ b := fun k e => by have := hB.lt k e; omega
  have fB2 : ∀ k, ab B = some k → k ≠ b2 := fun k e => by have := hB.lt k e; have := k3.size; omega
  have p1 := hp.old (oneB b) (fun k e => by unfold oneB at e; omega)
  have p2 := hp.old (oneB b2) (fun k e => by unfold oneB at e; omega)
  have z4 := h4.lt
  have pA1 : ps = [] ∨ ∀ k, ab A = some k → k ≠ b2 := by
    by_cases hl : ps = []
    · exact .inl hl
    · exact .inr (fun k e => by have := hr.lt (by simpa using hl) k e; omega)
  clear h3 hB k1 k2 k3 k4 K2 K3 T2 T3
  go_wp2
  go_loopw [7, 29] (fun vn vi wr => ∃ k : Nat, k ≤ m ∧ vi = .int .i64 k ∧ vn = .int .i64 (catP (ps.take k)).length ∧ Has wr b (catP (ps.take k)) ∧ Kp (oneB b) w4 wr)
    (fun _ vi _ => m - (intOf vi).toNat)
  case atStart => exact ⟨0, by omega, rfl, by simp [catP], by simpa [catP] using h3', Kp.refl _ _⟩
  case round =>
    obtain ⟨k, hk, rfl, rfl, ho, kr⟩ := hrel
    have KR : Kp nob w wr := K4.since kr (fun i e => by unfold oneB at e; omega)
    have TR := ht.keep0 KR
    have hB5 := hB4.keep kr (fun k e e' => fB k e e')
    have hBn := own_none hB5
    have hr5 := hr.keep0 KR
    have h25 := h4.keep kr (fun e => by unfold oneB at e; omega)
    by_cases hlt : k < m
    · obtain ⟨p, hpk⟩ : ∃ p, p = ps[k]'(by omega) := ⟨_, rfl⟩
      obtain ⟨bb, oo, rfl, hbb, hcell⟩ := hr5.at_ (i := k) (by simp [hm]; exact hlt)
      have hce : wr.cell? ⟨bb, oo + k, none⟩ = some (.slice p.A p.n p.c) := by rw [hcell, hpk]; simp [Pc.v]
      obtain ⟨q1, q2, q3, q4, q5⟩ := p1 p (by rw [hpk]; exact List.getElem_mem _)
      have q2' : Row wr p.A (bvs p.l) := q2.keep0 KR
      have hsn := catP_snoc ps k (by omega)
      have hle := catP_le ps (k + 1)
      have hsp := catP_split ps (k + 1)
      rw [hsn, List.length_append, ← hpk, q1, ← HN.out] at hle
      rw [← hpk] at hsn
      rw [hsn] at hsp
      obtain ⟨L, hL⟩ : ∃ L, L = (catP (ps.take k)).length := ⟨_, rfl⟩
      rw [← hL] at hle ⊢
      generalize hX : catP (ps.take k) = X at ho hsn hsp hL
      have hXp : (X ++ p.l).length = L + p.n := by rw [List.length_append, ← hL, q1]
      have hXi : ((X ++ p.l).length : Int) = L + p.n := by rw [hXp]; simp
      have htk : (catP ps).take (L + p.n) = X ++ p.l := by rw [hsp, ← hXp, List.take_left]
      have rB : Row wr B (bvs (X ++ p.l)) := by
        have := hB5.row.take (L + p.n)
        rwa [bvs_take, htk] at this
      have hcB := hB5.cap
      have s1 : ∀ wx, (Instr.slice 24 (.slice B N cB) none (some (.int .i64 ((L : Int) + p.n))) none).run Tryd.prog wx = .ok (.slice B (L + p.n) cB) wx := fun wx => by
        have := slice_to B N cB (L + p.n) (by omega) wx
        simpa using this
      have hq := eq_same (X ++ p.l)
      have HS := Lib.hid hsn; have HXP := Lib.hid hXp; have HXI := Lib.hid hXi; have HX := Lib.hid hX; have HL := Lib.hid hL; have HQ := Lib.hid q1
      have hb3 : L + X.length + p.n ≤ 1000000 := by omega
      have hb4 : L + p.n ≤ 8192 := by omega
      have hb5 : X.length + p.l.length ≤ 1099511627776 := by omega
      have hb6 : (X ++ p.l).length ≤ 1099511627776 := by rw [hXp]; omega
      have HB5 := Lib.hid hb5; have HB6 := Lib.hid hb6
      clear hsn hpk hcell hle hsp htk hXp hXi hX hL q1 hb5 hb6
      go_wp2_with fail
      refine (write_one b X p wr 24 _ rfl ho TR f1 (pcs_one HQ.out q2' q3 q4 q5) HB5.out).mono ?_
      rintro e w6 ⟨rfl, h6, k6⟩
      have KR6 : Kp nob w w6 := KR.since k6 (fun i e => by unfold oneB at e; omega)
      have rB6 : Row w6 B (bvs (X ++ p.l)) := rB.keep k6 (fun k e e' => fB k e e')
      have T6 := ht.keep0 KR6
      have h6d : Has w6.drew b (X ++ p.l) := h6.keep (Kp.refl nob w6).drew (fun e => e)
      have T6d := T6.keep0 (Kp.refl nob w6).drew
      have r6d := rB6.keep0 (Kp.refl nob w6).drew
      go_wp2
      go_region_with (first
        | (go_at_call 15
           refine (sum_any b (X ++ p.l) _ h6d T6d HB6.out).mono ?_
           rintro e w7 ⟨rfl, k7⟩)
        | (go_at_call 12
           refine (fOf B (L + p.n) cB (X ++ p.l) _ HXP.out (by omega) hBn (r6d.keep0 k7)).mono ?_
           rintro e w8 ⟨rfl, k8⟩)
        | (go_at_call 16
           refine (size_any b (X ++ p.l) _ ((h6d.keep k7 (fun e => e)).keep k8 (fun e => e))).mono ?_
           rintro e w9 ⟨rfl, rfl⟩
           rw [HXI.out]))
      go_wp2
      go_roundw
      case rel =>
        refine ⟨k + 1, by omega, by go_num, by rw [HS.out, HXP.out]; go_num, by rw [HS.out]; exact (h6d.keep k7 (fun e => e)).keep k8 (fun e => e), ?_⟩
        exact ((kr.trans k6 (fun _ e => .inl e)).drew.trans k7 (fun _ e => e.elim)).trans k8 (fun _ e => e.elim)
      case measure => simp [intOf]; omega
    · have e : ps.take k = ps := List.take_of_length_le (by omega)
      rw [e] at ho ⊢
      have hq := eq_same (catP ps)
      have hqz := eq_lit
      have HL : Hid ((catP ps).length ≤ 1099511627776) := Lib.hid (by rw [← HN.out]; omega)
      have hcB := hB5.cap
      go_wp2_with fail
      refine (write_any b2 [] A m c ps wr h25 TR f2 hm hr5 pA1 (p2.keep KR (fun _ e => e.elim)) (by omega) (by simpa using HL.out)).mono ?_
      rintro e w6 ⟨rfl, h6, k6⟩
      rw [List.nil_append] at h6
      have k6' : Kp nob w w6 := KR.since k6 (fun i e => by unfold oneB at e; omega)
      have ho6 := ho.keep k6 (fun e => by unfold oneB at e; omega)
      have hB6 := hB5.keep k6 (fun k e e' => fB2 k e e')
      have T6 := ht.keep0 k6'
      have rB6 := hB6.row
      have kc := fun (w : World) (C : Array Value) (n c : Nat) => Lib.run_convert_bytes_const (P := Tryd.prog) w 24 5 C n c u8s_under (by kernel_rfl)
      go_wp2_with fail
      refine (write_nil _ _).mono ?_
      rintro e w7 ⟨rfl, k7⟩
      have K67 : Kp nob w6 w7 := by
        first
          | exact (((Kp.refl nob w6).alloc _).alloc _).trans k7 (fun _ e => e.elim)
          | exact ((((Kp.refl nob w6).alloc _).alloc _).alloc _).trans k7 (fun _ e => e.elim)
      clear k7 kc
      have T7 := T6.keep0 K67
      have h7 := h6.keep K67 (fun e => e)
      have ho7 := ho6.keep K67 (fun e => e)
      go_wp2_with fail
      refine (sum_any b2 (catP ps) w7 h7 T7 HL.out).mono ?_
      rintro e w8 ⟨rfl, k8⟩
      have ho8 := ho7.keep k8 (fun e => e)
      have T8 := T7.keep0 k8
      go_wp2_with fail
      refine (sum_any b (catP ps) w8 ho8 T8 HL.out).mono ?_
      rintro e w9 ⟨rfl, k9⟩
      have ho9 := ho8.keep k9 (fun e => e)
      have T9 := T8.keep0 k9
      go_wp2_with fail
      refine (sum_any b (catP ps) w9 ho9 T9 HL.out).mono ?_
      rintro e w10 ⟨rfl, k10⟩
      have T10 := T9.keep0 k10
      have K10 : Kp nob w6 w10 := ((K67.trans k8 (fun _ e => e.elim)).trans k9 (fun _ e => e.elim)).trans k10 (fun _ e => e.elim)
      go_wp2_with fail
      refine (of_one ⟨B, N, cB, catP ps⟩ w10 24 _ rfl T10 (pcs_one HN.out.symm (rB6.keep0 K10) (.inr (fun _ _ e => e)) hcB.1 hcB.2) HL.out).mono ?_
      rintro e w11 ⟨rfl, k11⟩
      go_wp2_with fail
      refine (size_nil w11).mono ?_
      rintro e w12 ⟨rfl, k12⟩
      go_wp2_with fail
      refine (sum_nil w12).mono ?_
      rintro e w13 ⟨rfl, k13⟩
      go_wp2
      go_ret
      exact ⟨rfl, (((k6'.trans K10 (fun _ e => e.elim)).trans k11 (fun _ e => e.elim)).trans k12 (fun _ e => e.elim)).trans k13 (fun _ e => e.elim)⟩
theorem goes_any (A : Option Addr) (m c : Nat) (ps : List Pc) (w : World) (ht : Tabs w) (hm : ps.length = m) (hr : Row w A (ps.map Pc.v)) (hmm : m ≤ maxLen) (hp : PcsOk w nob ps) (hA : ∀ p ∈ ps, p.A = none → p.c = 0) (hn : ∀ p ∈ ps, p.n ≤ 140737488355328) :
    Calls Tryd.prog 5 #[.slice A m c] w fun e w' => e = .returned (.bool true) ∧ Kp nob w w' := by
  by_cases h1 : m ≤ 200
  · by_cases h2 : (catP ps).length ≤ 8192
    · by_cases h3 : m ≤ 20
      · exact goes_yes A m c ps w ht hm hr hp hA h2 h3
      · exact goes_mid A m c ps w ht hm hr hp hA h1 h2 (by omega)
    · exact goes_long A m c ps w ht hm hr hp hA hn h1 (by omega)
  · exact goes_many A m c w ht (by omega) hmm
end Go.Proofs.YtccdlchbfanmdaaDoor.Sha
