/- Contracts of package hmac: the keyed digest of pieces at once; whether two tags are the same. -/
import Derived.Test.YtdfpfiipcieabaaDoorHmacD
namespace Go.Proofs.YtdfpfiipcieabaaDoor.Hmac
open Go Go.RowKit Kit
open Sha (Tabs Far Has Pc PcsOk catP u8s_under arr32b)

set_option maxHeartbeats 1000000 in
set_option maxRecDepth 100000 in
theorem of_any (A : Option Addr) (n c : Nat) (k : List UInt8) (B : Option Addr) (m d : Nat) (ps : List Pc) (w : World) (ht : Tabs w) (hk : k.length = n) (hr : Row w A (bvs k)) (hc : n ≤ c) (hm : c ≤ maxLen) (hn2 : n ≤ 1099511627776)
    (hps : ps.length = m) (hrp : Row w B (ps.map Pc.v)) (hp : PcsOk w nob ps) (hmm : m ≤ 1099511627776) (hl : (catP ps).length ≤ 1099511000000) :
    Calls Tryd.prog 10 #[.slice A n c, .slice B m d] w fun e w' => e = .returned (.agg (bvs (mac k (catP ps))).toArray) ∧ Kp nob w w' := by
  have HML := Lib.hid (mac_length k (catP ps))
  have HIL := Lib.hid (ik_length k)
  have K0 : ∀ o : Obj, Kp nob w (w.alloc o) := fun o => (Kp.refl nob w).alloc o
  have HK := Lib.hid hk; have HPS := Lib.hid hps; clear hk hps
  go_enter Tryd.func10, Tryd.ntmps10
  go_wp2_with fail
  refine (new_any A n c k _ (ht.keep0 (K0 _)) HK.out (hr.alloc _) hc hm hn2).mono ?_
  rintro e w2 ⟨b, h, rfl, hM, hH, k2, nb, nh⟩
  obtain ⟨z, hz1, hz2⟩ : ∃ z, Blk w2 w.heap.size 25 z ∧ z.length = 32 := ⟨_, (Blk.new' (w := w) rfl rfl).keep k2 (fun e => e), rfl⟩
  have K2 : Kp nob w w2 := (K0 _).trans k2 (fun _ e => e.elim)
  have HZ1 := Lib.hid hz1; have HZ2 := Lib.hid hz2
  simp only [World.alloc, Array.size_push] at nb nh
  have hc0 := hM.hash
  have T2 := ht.keep0 K2
  have r2 := hrp.keep0 K2
  have p2 := (hp.old (oneB h) (fun k e => by unfold oneB at e; omega)).keep K2 (fun _ e => e.elim)
  have hB2 : ps = [] ∨ ∀ k, ab B = some k → k ≠ h := by
    by_cases hl : ps = []
    · exact .inl hl
    · exact .inr (fun k e => by have := hrp.lt (by simpa using hl) k e; omega)
  clear k2 hz1 hz2 K0
  go_wp2_with fail
  refine (Sha.write_any h (ik k) B m d ps _ hH T2 hM.far HPS.out r2 hB2 p2 hmm (by rw [HIL.out]; omega)).mono ?_
  rintro e w3 ⟨rfl, h3, k3⟩
  have M3 := hM.keep k3 (fun e => hM.ne e.symm)
  have K3 := K2.since k3 (fun i e => by unfold oneB at e; omega)
  have HZ3 := Lib.hid (HZ1.out.keep k3 (fun e => by unfold oneB at e; omega))
  clear hc0
  go_wp2_with fail
  refine (sum_any b h k (catP ps) _ M3 h3 (ht.keep0 K3) hl).mono ?_
  rintro e w4 ⟨rfl, k4⟩
  have HZ4 := Lib.hid (HZ3.out.keep k4 (fun e => e))
  go_wp2_with (refine wpList_store_blk rfl 25 (.tmp 4) (.tmp 15) rfl _ _ z (bvs (mac k (catP ps))) HZ4.out rfl rfl (by rw [HZ2.out, bvs_length, HML.out]) (by rw [bvs_length, HML.out]; kernel_rfl) (bvs_one _) ?_; intro w5 hB5 k5 z5)
  have hsz5 : (Tryd.prog.info? 25).map (·.size) = some (bvs (mac k (catP ps))).toArray.size := by
    rw [List.size_toArray, bvs_length, HML.out]; kernel_rfl
  refine bodyPost_ret (results_cell_row rfl _ _ w.heap.size _ _ _ _ rfl hB5 arr32b rfl hsz5) rfl ⟨rfl, (K3.trans k4 (fun _ e => e.elim)).since k5 (fun i e => by unfold oneB at e; omega)⟩

/-- How the first bytes of two lists differ. -/
def diff (l m : List UInt8) : Nat → UInt8
  | 0 => 0
  | k + 1 => diff l m k ||| (byteAt l k ^^^ byteAt m k)
theorem u8_or_zero (a b : UInt8) : a ||| b = 0 ↔ a = 0 ∧ b = 0 := by
  constructor
  · intro h
    have h1 : (a ||| b).toBitVec = 0#8 := by rw [h]; rfl
    rw [UInt8.toBitVec_or] at h1
    rw [BitVec.or_eq_zero_iff] at h1
    exact ⟨UInt8.toBitVec_inj.1 h1.1, UInt8.toBitVec_inj.1 h1.2⟩
  · rintro ⟨rfl, rfl⟩; rfl
theorem diff_zero (l m : List UInt8) (k : Nat) : diff l m k = 0 ↔ ∀ i, i < k → byteAt l i = byteAt m i := by
  induction k with
  | zero => simp [diff]
  | succ k ih =>
    rw [diff, u8_or_zero, ih, UInt8.xor_eq_zero_iff]
    constructor
    · rintro ⟨h1, h2⟩ i hi
      by_cases h : i = k
      · subst h; exact h2
      · exact h1 i (by omega)
    · intro h
      exact ⟨fun i hi => h i (by omega), h k (by omega)⟩
theorem diff_same (l m : List UInt8) (h : l.length = m.length) : diff l m (max l.length m.length) = 0 ↔ l = m := by
  rw [diff_zero, h, Nat.max_self]
  constructor
  · intro hd
    apply List.ext_getElem h
    intro i h1 h2
    have := hd i h2
    rwa [byteAt, byteAt, List.getD, List.getD, List.getElem?_eq_getElem h1, List.getElem?_eq_getElem h2] at this
  · rintro rfl i _; rfl
theorem diff_none (l m : List UInt8) : diff l m 0 = 0 := rfl
theorem diff_more (l m : List UInt8) (k : Nat) : diff l m (k + 1) = diff l m k ||| (byteAt l k ^^^ byteAt m k) := rfl
attribute [irreducible] diff

set_option maxHeartbeats 1000000 in
theorem same_left (A : Option Addr) (n c : Nat) (l : List UInt8) (B : Option Addr) (m d : Nat) (q : List UInt8) (w : World) (hl : l.length = n) (hr : Row w A (bvs l)) (hn : n ≤ 1099511627776) (hq : q.length = m) (hr2 : Row w B (bvs q)) (hm : m ≤ 1099511627776) (hx : m ≤ n) :
    Calls Tryd.prog 16 #[.slice A n c, .slice B m d] w fun e w' => e = .returned (.bool (l == q)) ∧ w = w' := by
  have hN : max l.length q.length = n := by rw [hl, hq]; omega
  have HL := Lib.hid hl; have HQ := Lib.hid hq; have HN := Lib.hid hN
  clear hl hq hN
  go_enter Tryd.func16, Tryd.ntmps16
  go_wp2
  go_loop [5, 12] (fun vd vi => ∃ k : Nat, k ≤ n ∧ vi = .int .i64 k ∧ vd = .int .u8 (diff l q k).toNat)
    (fun _ vi => n - (intOf vi).toNat)
  case atStart => exact ⟨0, by omega, rfl, by simp [diff_none]⟩
  case round =>
    obtain ⟨k, hk, rfl, rfl⟩ := hrel
    have HD := Lib.hid (diff_more l q k)
    by_cases hlt : k < n
    · generalize diff l q k = D at *
      go_wp2_with (first
        | (go_at_call_of 24 (Value.slice A n c)
           refine (at_any A n c l k _ HL.out hr hn).mono ?_
           rintro e w' ⟨rfl, rfl⟩)
        | (go_at_call_of 24 (Value.slice B m d)
           refine (at_any B m d q k _ HQ.out hr2 hm).mono ?_
           rintro e w' ⟨rfl, rfl⟩))
      go_round
      case rel => exact ⟨k + 1, by omega, by go_num, by rw [HD.out, ← UInt8.toNat_xor, u8_or]⟩
      case measure => simp [intOf]; omega
    · obtain rfl : n = k := by omega
      have HS := Lib.hid (diff_same l q)
      rw [HN.out] at HS
      obtain ⟨D, hD⟩ : ∃ D, D = diff l q n := ⟨_, rfl⟩
      rw [← hD] at HS ⊢
      clear hD
      by_cases h0 : D = 0
      · have d0 : ((D.toNat : Int) == 0) = true := by rw [h0]; rfl
        by_cases hnm : n = m
        · have d1 : ((n : Int) == (m : Int)) = true := by rw [beq_iff_eq]; omega
          have E : Hid ((l == q) = true) := Lib.hid (by
            rw [beq_iff_eq]; exact (HS.out (by rw [HL.out, HQ.out]; exact hnm)).1 h0)
          clear HS h0
          have HNM := Lib.hid hnm; clear hnm
          go_wp2
          go_ret
          exact ⟨by rw [E.out]; rfl, rfl⟩
        · have d1 : ((n : Int) == (m : Int)) = false := by rw [beq_eq_false_iff_ne]; omega
          have E : Hid ((l == q) = false) := Lib.hid (by
            rw [beq_eq_false_iff_ne]; rintro rfl; exact hnm (HL.out.symm.trans HQ.out))
          clear HS h0
          go_wp2
          go_ret
          exact ⟨by rw [E.out]; rfl, rfl⟩
      · have d0 : ((D.toNat : Int) == 0) = false := by
          rw [beq_eq_false_iff_ne]; intro e; exact h0 (UInt8.toNat_inj.1 (by have : D.toNat = 0 := by omega
                                                                             rw [this]; rfl))
        have E : Hid ((l == q) = false) := Lib.hid (by
          rw [beq_eq_false_iff_ne]; rintro rfl; exact h0 ((HS.out rfl).2 rfl))
        clear HS h0
        go_wp2
        go_ret
        exact ⟨by rw [E.out]; rfl, rfl⟩
set_option maxHeartbeats 1000000 in
theorem same_right (A : Option Addr) (n c : Nat) (l : List UInt8) (B : Option Addr) (m d : Nat) (q : List UInt8) (w : World) (hl : l.length = n) (hr : Row w A (bvs l)) (hn : n ≤ 1099511627776) (hq : q.length = m) (hr2 : Row w B (bvs q)) (hm : m ≤ 1099511627776) (hx : n < m) :
    Calls Tryd.prog 16 #[.slice A n c, .slice B m d] w fun e w' => e = .returned (.bool (l == q)) ∧ w = w' := by
  have hN : max l.length q.length = m := by rw [hl, hq]; omega
  have HL := Lib.hid hl; have HQ := Lib.hid hq; have HN := Lib.hid hN
  clear hl hq hN
  go_enter Tryd.func16, Tryd.ntmps16
  go_wp2
  go_loop [5, 12] (fun vd vi => ∃ k : Nat, k ≤ m ∧ vi = .int .i64 k ∧ vd = .int .u8 (diff l q k).toNat)
    (fun _ vi => m - (intOf vi).toNat)
  case atStart => exact ⟨0, by omega, rfl, by simp [diff_none]⟩
  case round =>
    obtain ⟨k, hk, rfl, rfl⟩ := hrel
    have HD := Lib.hid (diff_more l q k)
    by_cases hlt : k < m
    · generalize diff l q k = D at *
      go_wp2_with (first
        | (go_at_call_of 24 (Value.slice A n c)
           refine (at_any A n c l k _ HL.out hr hn).mono ?_
           rintro e w' ⟨rfl, rfl⟩)
        | (go_at_call_of 24 (Value.slice B m d)
           refine (at_any B m d q k _ HQ.out hr2 hm).mono ?_
           rintro e w' ⟨rfl, rfl⟩))
      go_round
      case rel => exact ⟨k + 1, by omega, by go_num, by rw [HD.out, ← UInt8.toNat_xor, u8_or]⟩
      case measure => simp [intOf]; omega
    · obtain rfl : m = k := by omega
      have HS := Lib.hid (diff_same l q)
      rw [HN.out] at HS
      obtain ⟨D, hD⟩ : ∃ D, D = diff l q m := ⟨_, rfl⟩
      rw [← hD] at HS ⊢
      clear hD
      by_cases h0 : D = 0
      · have d0 : ((D.toNat : Int) == 0) = true := by rw [h0]; rfl
        by_cases hnm : n = m
        · have d1 : ((n : Int) == (m : Int)) = true := by rw [beq_iff_eq]; omega
          have E : Hid ((l == q) = true) := Lib.hid (by
            rw [beq_iff_eq]; exact (HS.out (by rw [HL.out, HQ.out]; exact hnm)).1 h0)
          clear HS h0
          have HNM := Lib.hid hnm; clear hnm
          go_wp2
          go_ret
          exact ⟨by rw [E.out]; rfl, rfl⟩
        · have d1 : ((n : Int) == (m : Int)) = false := by rw [beq_eq_false_iff_ne]; omega
          have E : Hid ((l == q) = false) := Lib.hid (by
            rw [beq_eq_false_iff_ne]; rintro rfl; exact hnm (HL.out.symm.trans HQ.out))
          clear HS h0
          go_wp2
          go_ret
          exact ⟨by rw [E.out]; rfl, rfl⟩
      · have d0 : ((D.toNat : Int) == 0) = false := by
          rw [beq_eq_false_iff_ne]; intro e; exact h0 (UInt8.toNat_inj.1 (by have : D.toNat = 0 := by omega
                                                                             rw [this]; rfl))
        have E : Hid ((l == q) = false) := Lib.hid (by
          rw [beq_eq_false_iff_ne]; rintro rfl; exact h0 ((HS.out rfl).2 rfl))
        clear HS h0
        go_wp2
        go_ret
        exact ⟨by rw [E.out]; rfl, rfl⟩
theorem same_any (A : Option Addr) (n c : Nat) (l : List UInt8) (B : Option Addr) (m d : Nat) (q : List UInt8) (w : World) (hl : l.length = n) (hr : Row w A (bvs l)) (hn : n ≤ 1099511627776) (hq : q.length = m) (hr2 : Row w B (bvs q)) (hm : m ≤ 1099511627776) :
    Calls Tryd.prog 16 #[.slice A n c, .slice B m d] w fun e w' => e = .returned (.bool (l == q)) ∧ w = w' := by
  by_cases h : m ≤ n
  · exact same_left A n c l B m d q w hl hr hn hq hr2 hm h
  · exact same_right A n c l B m d q w hl hr hn hq hr2 hm (by omega)
end Go.Proofs.YtdfpfiipcieabaaDoor.Hmac
