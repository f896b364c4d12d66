/- The statement of coffretlaw10.VaultLimits, over what 'note' does. · Package vault: what 'note' does: a copy of a text is kept, and a text is held against the one that is kept by all its bytes. · What a frame of a plain row asks of the program. -/
import Derived.Test.YtmmpmncioifeoaaZG03
import Derived.Test.YtmmpmncioifeoaaZG17
import Derived.Test.YtmmpmncioifeoaaZG16
import Derived.Test.YtmmpmncioifeoaaZG08
import Derived.Test.YtmmpmncioifeoaaZG14
import Derived.Test.YtmmpmncioifeoaaZG04
import Derived.Test.YtmmpmncioifeoaaRows
import Derived.ProofKit
import Derived.OpenShut
namespace Go.Proofs.Ytmmpmncioifeoaa.Vault
set_option linter.unusedVariables false
set_option linter.unusedSimpArgs false
open Go Go.RowKit Kit
open Ideal (Iw Iq Ans Arg Args Thing mk out sealT opn macT derT hashT z32 zc zc_run zc_length zc_eq args_none lit_arg)
open Sha (Pc PcsOk catP)

/-- A first seal of nothing. -/
theorem seal_first (dif : List UInt8 → List UInt8 → Bool) (Z : World → Prop) (hN : NoteC dif Z) (w w2 : World) (v m p : Nat) (F : Nat → Prop) (lim : Nat) (e s : Int) (hf : Fresh0 w w2 v m p F z32 lim) (hz : ∀ w', Kp nob w w' → Z w') :
    Calls Try.prog 9 #[.pointer (some ⟨v, 0, none⟩), .agg (bvs z32).toArray, .int .i64 e, .int .i64 s, .slice none 0 0, .slice none 0 0] w2 fun x w' => ∃ X n c ps cl, x = .returned (.tuple #[.slice X n c, .int .i64 (refu lim e s)]) ∧ Vb w' v m (imk p) z32 lim ps cl ∧ Kp nob w w' := by
  by_cases hr : refu lim e s = 0
  · refine (seal_yes dif Z hN v m p F [] z32 lim [] 0 z32 z32_length e s none 0 0 [] none 0 0 [] w2 hf.vs hf.iw hf.ne ⟨rfl, Row.nil _ _, .inl rfl, Nat.le_refl _, by decide, fun _ => rfl⟩ (args_none _ _) (Nat.zero_le _) (by decide) (by decide) (Nat.zero_le _) hr
      (fun w' h => hz w' (hf.kp.since h hf.f))).mono ?_
    rintro x w5 ⟨F2, X, cX, rfl, hs⟩
    rw [hr]
    exact ⟨X, _, cX, _, _, rfl, hs.vs.b, hf.kp.since hs.kp (fun i e => e.elim (hf.f i) (fun e => e.elim (fun e => e ▸ hf.lt.1) (fun e => e ▸ hf.lt.2)))⟩
  · refine (seal_no v m (imk p) z32 lim _ 0 _ e s _ _ w2 z32 rfl hf.vs.b hr).mono ?_
    rintro x w5 ⟨rfl, k⟩
    exact ⟨none, 0, 0, _, _, rfl, hf.vs.b.keep0 k, hf.kp.trans k (fun _ e => e.elim)⟩
theorem eqK (w : World) : (Op.equalIn 10000 28 (.agg (bvs z32).toArray) (.agg #[Value.int IntKind.u8 0, Value.int IntKind.u8 0, Value.int IntKind.u8 0, Value.int IntKind.u8 0, Value.int IntKind.u8 0, Value.int IntKind.u8 0, Value.int IntKind.u8 0, Value.int IntKind.u8 0, Value.int IntKind.u8 0, Value.int IntKind.u8 0, Value.int IntKind.u8 0, Value.int IntKind.u8 0, Value.int IntKind.u8 0, Value.int IntKind.u8 0, Value.int IntKind.u8 0, Value.int IntKind.u8 0, Value.int IntKind.u8 0, Value.int IntKind.u8 0, Value.int IntKind.u8 0, Value.int IntKind.u8 0, Value.int IntKind.u8 0, Value.int IntKind.u8 0, Value.int IntKind.u8 0, Value.int IntKind.u8 0, Value.int IntKind.u8 0, Value.int IntKind.u8 0, Value.int IntKind.u8 0, Value.int IntKind.u8 0, Value.int IntKind.u8 0, Value.int IntKind.u8 0, Value.int IntKind.u8 0, Value.int IntKind.u8 0])).run Try.prog w = .ok true w := by
  have : (Op.equalIn 10000 28 (.agg (bvs z32).toArray) (.agg (bvs z32).toArray)).run Try.prog w = .ok (z32 == z32) w := run_equalIn_bytes w 9998 28 5 32 key_under (by kernel_rfl) (fun _ => by kernel_rfl) z32 z32 z32_length z32_length
  rw [show (z32 == z32) = true by simp] at this
  exact this
theorem eqZ (w : World) : (Op.equalIn 10000 27 (.agg (bvs z32).toArray) (.agg #[Value.int IntKind.u8 0, Value.int IntKind.u8 0, Value.int IntKind.u8 0, Value.int IntKind.u8 0, Value.int IntKind.u8 0, Value.int IntKind.u8 0, Value.int IntKind.u8 0, Value.int IntKind.u8 0, Value.int IntKind.u8 0, Value.int IntKind.u8 0, Value.int IntKind.u8 0, Value.int IntKind.u8 0, Value.int IntKind.u8 0, Value.int IntKind.u8 0, Value.int IntKind.u8 0, Value.int IntKind.u8 0, Value.int IntKind.u8 0, Value.int IntKind.u8 0, Value.int IntKind.u8 0, Value.int IntKind.u8 0, Value.int IntKind.u8 0, Value.int IntKind.u8 0, Value.int IntKind.u8 0, Value.int IntKind.u8 0, Value.int IntKind.u8 0, Value.int IntKind.u8 0, Value.int IntKind.u8 0, Value.int IntKind.u8 0, Value.int IntKind.u8 0, Value.int IntKind.u8 0, Value.int IntKind.u8 0, Value.int IntKind.u8 0])).run Try.prog w = .ok true w := by
  have : (Op.equalIn 10000 27 (.agg (bvs z32).toArray) (.agg (bvs z32).toArray)).run Try.prog w = .ok (z32 == z32) w := run_equalIn_bytes w 9998 27 5 32 Ideal.arr32_under (by kernel_rfl) (fun _ => by kernel_rfl) z32 z32 z32_length z32_length
  rw [show (z32 == z32) = true by simp] at this
  exact this

set_option maxHeartbeats 4000000 in
set_option maxRecDepth 100000 in
theorem limits_walk (dif : List UInt8 → List UInt8 → Bool) (Z : World → Prop) (hN : NoteC dif Z) (limit epoch seq : Int) (w : World) (hz : ∀ w', Kp nob w w' → Z w') :
    Calls Try.prog 3 #[.int .i64 limit, .int .i64 epoch, .int .i64 seq] w fun e w' => e = .returned (.bool true) ∧ Kp nob w w' := by
  have hek := eqK; have hez := eqZ
  go_enter Try.func3, Try.ntmps3
  go_wp2_with fail
  refine (alive_yes dif Z hN w hz).mono ?_
  rintro e wa ⟨rfl, ka⟩
  have HKA := Lib.hid ka; clear ka
  go_wp2_with fail
  refine (Ideal.new_i wa).mono ?_
  rintro e w1 ⟨p, F, rfl, hq⟩
  have HQ := Lib.hid hq; clear hq
  go_wp2_with (first
    | (refine wpList_built rfl 28 _ rfl (.agg zc.toArray) (by exact exec_build _ _ rfl [] _ rfl (zk_build _)) ?_)
    | fail)
  rw [zc_eq]
  refine (ideal_any p z32 limit w1 z32_length).mono ?_
  rintro e w2 ⟨v, m, rfl, hv, k2, n1, n2⟩
  have HF : Hid (Fresh0 wa w2 v m p F z32 limit.toNat) := Lib.hid (fresh_of HQ.out hv k2 n1 n2)
  clear hv k2 n1 n2 HQ
  go_wp2_with (first
    | (refine wpList_built rfl 28 _ rfl (.agg zc.toArray) (by exact exec_build _ _ rfl [] _ rfl (zk_build _)) ?_)
    | fail)
  rw [zc_eq]
  refine (seal_first dif Z hN wa w2 v m p F limit.toNat epoch seq HF.out (fun w' h => hz w' (HKA.out.trans h (fun _ e => e.elim)))).mono ?_
  rintro e w3 ⟨X, n, c, ps, cl, rfl, hv3, k3⟩
  have HV3 := Lib.hid hv3
  have HK3 : Hid (Kp nob w w3) := Lib.hid (HKA.out.trans k3 (fun _ e => e.elim))
  have hLim := limit_any v m (imk p) z32 limit.toNat ps cl w3 hv3
  clear hv3 k3 HF HKA hN hz
  obtain ⟨r, hr⟩ : ∃ r, r = refu limit.toNat epoch seq := ⟨_, rfl⟩
  rw [← hr]
  obtain ⟨L, hL⟩ : ∃ L, L = limit.toNat := ⟨_, rfl⟩
  rw [← hL] at hr hLim
  have HLM := Lib.hid (show (L : Int) = max limit 0 by omega)
  have hmm : refu L epoch seq = r := hr.symm
  rw [← hL] at HV3
  by_cases hn : limit < 0
  · obtain rfl : L = 0 := by omega
    clear hr hL HLM
    by_cases h1 : epoch < 0
    · obtain rfl : 1 = r := by rw [← hmm]; unfold refu; rw [if_pos (.inl h1)]
      clear hmm
      go_wp2_with (first | (refine wpList_built rfl 28 _ rfl (.agg zc.toArray) (by exact exec_build _ _ rfl [] _ rfl (zk_build _)) ?_) | fail)
      rw [zc_eq]
      refine (seal_nil 0 0 _ _ w3 z32).mono ?_
      rintro e w4 ⟨rfl, k4⟩
      go_wp2_with (first | (refine wpList_built rfl 28 _ rfl (.agg zc.toArray) (by exact exec_build _ _ rfl [] _ rfl (zk_build _)) ?_) | fail)
      rw [zc_eq]
      refine (open_nil 0 0 _ _ w4 z32).mono ?_
      rintro e w5 ⟨rfl, k5⟩
      have HV5 := Lib.hid ((HV3.out.keep0 k4).keep0 k5)
      have HK5 := Lib.hid ((HK3.out.trans k4 (fun _ e => e.elim)).trans k5 (fun _ e => e.elim))
      clear k4 k5
      go_wp2_with fail
      refine (limit_any v m (imk p) z32 _ ps cl w5 HV5.out).mono ?_
      rintro e w6 ⟨rfl, rfl⟩
      go_wp2_with fail
      refine (limit_nil w5).mono ?_
      rintro e w6 ⟨rfl, rfl⟩
      go_wp2_with fail
      refine (clashes_nil w5).mono ?_
      rintro e w6 ⟨rfl, rfl⟩
      go_wp2_with (first
        | (go_at_call 13; refine (key_nil _ _ w5).mono ?_; rintro e w6 ⟨rfl, k6⟩)
        | (go_at_call 14; refine (hash_nil _ w6).mono ?_; rintro e w7 ⟨rfl, k7⟩)
        | (go_at_call 15; refine (mac_nil z32 _ w7).mono ?_; rintro e w8 ⟨rfl, k8⟩)
        | fail)
      go_ret
      exact ⟨rfl, ((HK5.out.trans k6 (fun _ e => e.elim)).trans k7 (fun _ e => e.elim)).trans k8 (fun _ e => e.elim)⟩
    · by_cases h2 : seq < 0
      · obtain rfl : 1 = r := by rw [← hmm]; unfold refu; rw [if_pos (.inr h2)]
        clear hmm
        go_wp2_with (first | (refine wpList_built rfl 28 _ rfl (.agg zc.toArray) (by exact exec_build _ _ rfl [] _ rfl (zk_build _)) ?_) | fail)
        rw [zc_eq]
        refine (seal_nil 0 0 _ _ w3 z32).mono ?_
        rintro e w4 ⟨rfl, k4⟩
        go_wp2_with (first | (refine wpList_built rfl 28 _ rfl (.agg zc.toArray) (by exact exec_build _ _ rfl [] _ rfl (zk_build _)) ?_) | fail)
        rw [zc_eq]
        refine (open_nil 0 0 _ _ w4 z32).mono ?_
        rintro e w5 ⟨rfl, k5⟩
        have HV5 := Lib.hid ((HV3.out.keep0 k4).keep0 k5)
        have HK5 := Lib.hid ((HK3.out.trans k4 (fun _ e => e.elim)).trans k5 (fun _ e => e.elim))
        clear k4 k5
        go_wp2_with fail
        refine (limit_any v m (imk p) z32 _ ps cl w5 HV5.out).mono ?_
        rintro e w6 ⟨rfl, rfl⟩
        go_wp2_with fail
        refine (limit_nil w5).mono ?_
        rintro e w6 ⟨rfl, rfl⟩
        go_wp2_with fail
        refine (clashes_nil w5).mono ?_
        rintro e w6 ⟨rfl, rfl⟩
        go_wp2_with (first
          | (go_at_call 13; refine (key_nil _ _ w5).mono ?_; rintro e w6 ⟨rfl, k6⟩)
          | (go_at_call 14; refine (hash_nil _ w6).mono ?_; rintro e w7 ⟨rfl, k7⟩)
          | (go_at_call 15; refine (mac_nil z32 _ w7).mono ?_; rintro e w8 ⟨rfl, k8⟩)
          | fail)
        go_ret
        exact ⟨rfl, ((HK5.out.trans k6 (fun _ e => e.elim)).trans k7 (fun _ e => e.elim)).trans k8 (fun _ e => e.elim)⟩
      · by_cases h3 : 4294967295 < epoch
        · obtain rfl : 10 = r := by rw [← hmm]; unfold refu; rw [if_neg (by omega), if_pos (.inl (by omega))]
          clear hmm
          go_wp2_with (first | (refine wpList_built rfl 28 _ rfl (.agg zc.toArray) (by exact exec_build _ _ rfl [] _ rfl (zk_build _)) ?_) | fail)
          rw [zc_eq]
          refine (seal_nil 0 0 _ _ w3 z32).mono ?_
          rintro e w4 ⟨rfl, k4⟩
          go_wp2_with (first | (refine wpList_built rfl 28 _ rfl (.agg zc.toArray) (by exact exec_build _ _ rfl [] _ rfl (zk_build _)) ?_) | fail)
          rw [zc_eq]
          refine (open_nil 0 0 _ _ w4 z32).mono ?_
          rintro e w5 ⟨rfl, k5⟩
          have HV5 := Lib.hid ((HV3.out.keep0 k4).keep0 k5)
          have HK5 := Lib.hid ((HK3.out.trans k4 (fun _ e => e.elim)).trans k5 (fun _ e => e.elim))
          clear k4 k5
          go_wp2_with fail
          refine (limit_any v m (imk p) z32 _ ps cl w5 HV5.out).mono ?_
          rintro e w6 ⟨rfl, rfl⟩
          go_wp2_with fail
          refine (limit_nil w5).mono ?_
          rintro e w6 ⟨rfl, rfl⟩
          go_wp2_with fail
          refine (clashes_nil w5).mono ?_
          rintro e w6 ⟨rfl, rfl⟩
          go_wp2_with (first
            | (go_at_call 13; refine (key_nil _ _ w5).mono ?_; rintro e w6 ⟨rfl, k6⟩)
            | (go_at_call 14; refine (hash_nil _ w6).mono ?_; rintro e w7 ⟨rfl, k7⟩)
            | (go_at_call 15; refine (mac_nil z32 _ w7).mono ?_; rintro e w8 ⟨rfl, k8⟩)
            | fail)
          go_ret
          exact ⟨rfl, ((HK5.out.trans k6 (fun _ e => e.elim)).trans k7 (fun _ e => e.elim)).trans k8 (fun _ e => e.elim)⟩
        · obtain rfl : 10 = r := by rw [← hmm]; unfold refu; rw [if_neg (by omega), if_pos (.inr (by omega))]
          clear hmm
          have h5 : 0 ≤ seq := by omega
          go_wp2_with (first | (refine wpList_built rfl 28 _ rfl (.agg zc.toArray) (by exact exec_build _ _ rfl [] _ rfl (zk_build _)) ?_) | fail)
          rw [zc_eq]
          refine (seal_nil 0 0 _ _ w3 z32).mono ?_
          rintro e w4 ⟨rfl, k4⟩
          go_wp2_with (first | (refine wpList_built rfl 28 _ rfl (.agg zc.toArray) (by exact exec_build _ _ rfl [] _ rfl (zk_build _)) ?_) | fail)
          rw [zc_eq]
          refine (open_nil 0 0 _ _ w4 z32).mono ?_
          rintro e w5 ⟨rfl, k5⟩
          have HV5 := Lib.hid ((HV3.out.keep0 k4).keep0 k5)
          have HK5 := Lib.hid ((HK3.out.trans k4 (fun _ e => e.elim)).trans k5 (fun _ e => e.elim))
          clear k4 k5
          go_wp2_with fail
          refine (limit_any v m (imk p) z32 _ ps cl w5 HV5.out).mono ?_
          rintro e w6 ⟨rfl, rfl⟩
          go_wp2_with fail
          refine (limit_nil w5).mono ?_
          rintro e w6 ⟨rfl, rfl⟩
          go_wp2_with fail
          refine (clashes_nil w5).mono ?_
          rintro e w6 ⟨rfl, rfl⟩
          go_wp2_with (first
            | (go_at_call 13; refine (key_nil _ _ w5).mono ?_; rintro e w6 ⟨rfl, k6⟩)
            | (go_at_call 14; refine (hash_nil _ w6).mono ?_; rintro e w7 ⟨rfl, k7⟩)
            | (go_at_call 15; refine (mac_nil z32 _ w7).mono ?_; rintro e w8 ⟨rfl, k8⟩)
            | fail)
          go_ret
          exact ⟨rfl, ((HK5.out.trans k6 (fun _ e => e.elim)).trans k7 (fun _ e => e.elim)).trans k8 (fun _ e => e.elim)⟩
  · obtain rfl : limit = (L : Int) := by omega
    clear hr hL HLM hn
    by_cases h1 : epoch < 0
    · obtain rfl : 1 = r := by rw [← hmm]; unfold refu; rw [if_pos (.inl h1)]
      clear hmm
      go_wp2_with (first | (refine wpList_built rfl 28 _ rfl (.agg zc.toArray) (by exact exec_build _ _ rfl [] _ rfl (zk_build _)) ?_) | fail)
      rw [zc_eq]
      refine (seal_nil 0 0 _ _ w3 z32).mono ?_
      rintro e w4 ⟨rfl, k4⟩
      go_wp2_with (first | (refine wpList_built rfl 28 _ rfl (.agg zc.toArray) (by exact exec_build _ _ rfl [] _ rfl (zk_build _)) ?_) | fail)
      rw [zc_eq]
      refine (open_nil 0 0 _ _ w4 z32).mono ?_
      rintro e w5 ⟨rfl, k5⟩
      have HV5 := Lib.hid ((HV3.out.keep0 k4).keep0 k5)
      have HK5 := Lib.hid ((HK3.out.trans k4 (fun _ e => e.elim)).trans k5 (fun _ e => e.elim))
      clear k4 k5
      go_wp2_with fail
      refine (limit_any v m (imk p) z32 _ ps cl w5 HV5.out).mono ?_
      rintro e w6 ⟨rfl, rfl⟩
      go_wp2_with fail
      refine (limit_nil w5).mono ?_
      rintro e w6 ⟨rfl, rfl⟩
      go_wp2_with fail
      refine (clashes_nil w5).mono ?_
      rintro e w6 ⟨rfl, rfl⟩
      go_wp2_with (first
        | (go_at_call 13; refine (key_nil _ _ w5).mono ?_; rintro e w6 ⟨rfl, k6⟩)
        | (go_at_call 14; refine (hash_nil _ w6).mono ?_; rintro e w7 ⟨rfl, k7⟩)
        | (go_at_call 15; refine (mac_nil z32 _ w7).mono ?_; rintro e w8 ⟨rfl, k8⟩)
        | fail)
      go_ret
      exact ⟨rfl, ((HK5.out.trans k6 (fun _ e => e.elim)).trans k7 (fun _ e => e.elim)).trans k8 (fun _ e => e.elim)⟩
    · by_cases h2 : seq < 0
      · obtain rfl : 1 = r := by rw [← hmm]; unfold refu; rw [if_pos (.inr h2)]
        clear hmm
        go_wp2_with (first | (refine wpList_built rfl 28 _ rfl (.agg zc.toArray) (by exact exec_build _ _ rfl [] _ rfl (zk_build _)) ?_) | fail)
        rw [zc_eq]
        refine (seal_nil 0 0 _ _ w3 z32).mono ?_
        rintro e w4 ⟨rfl, k4⟩
        go_wp2_with (first | (refine wpList_built rfl 28 _ rfl (.agg zc.toArray) (by exact exec_build _ _ rfl [] _ rfl (zk_build _)) ?_) | fail)
        rw [zc_eq]
        refine (open_nil 0 0 _ _ w4 z32).mono ?_
        rintro e w5 ⟨rfl, k5⟩
        have HV5 := Lib.hid ((HV3.out.keep0 k4).keep0 k5)
        have HK5 := Lib.hid ((HK3.out.trans k4 (fun _ e => e.elim)).trans k5 (fun _ e => e.elim))
        clear k4 k5
        go_wp2_with fail
        refine (limit_any v m (imk p) z32 _ ps cl w5 HV5.out).mono ?_
        rintro e w6 ⟨rfl, rfl⟩
        go_wp2_with fail
        refine (limit_nil w5).mono ?_
        rintro e w6 ⟨rfl, rfl⟩
        go_wp2_with fail
        refine (clashes_nil w5).mono ?_
        rintro e w6 ⟨rfl, rfl⟩
        go_wp2_with (first
          | (go_at_call 13; refine (key_nil _ _ w5).mono ?_; rintro e w6 ⟨rfl, k6⟩)
          | (go_at_call 14; refine (hash_nil _ w6).mono ?_; rintro e w7 ⟨rfl, k7⟩)
          | (go_at_call 15; refine (mac_nil z32 _ w7).mono ?_; rintro e w8 ⟨rfl, k8⟩)
          | fail)
        go_ret
        exact ⟨rfl, ((HK5.out.trans k6 (fun _ e => e.elim)).trans k7 (fun _ e => e.elim)).trans k8 (fun _ e => e.elim)⟩
      · by_cases h3 : 4294967295 < epoch
        · obtain rfl : 10 = r := by rw [← hmm]; unfold refu; rw [if_neg (by omega), if_pos (.inl (by omega))]
          clear hmm
          go_wp2_with (first | (refine wpList_built rfl 28 _ rfl (.agg zc.toArray) (by exact exec_build _ _ rfl [] _ rfl (zk_build _)) ?_) | fail)
          rw [zc_eq]
          refine (seal_nil 0 0 _ _ w3 z32).mono ?_
          rintro e w4 ⟨rfl, k4⟩
          go_wp2_with (first | (refine wpList_built rfl 28 _ rfl (.agg zc.toArray) (by exact exec_build _ _ rfl [] _ rfl (zk_build _)) ?_) | fail)
          rw [zc_eq]
          refine (open_nil 0 0 _ _ w4 z32).mono ?_
          rintro e w5 ⟨rfl, k5⟩
          have HV5 := Lib.hid ((HV3.out.keep0 k4).keep0 k5)
          have HK5 := Lib.hid ((HK3.out.trans k4 (fun _ e => e.elim)).trans k5 (fun _ e => e.elim))
          clear k4 k5
          go_wp2_with fail
          refine (limit_any v m (imk p) z32 _ ps cl w5 HV5.out).mono ?_
          rintro e w6 ⟨rfl, rfl⟩
          go_wp2_with fail
          refine (limit_nil w5).mono ?_
          rintro e w6 ⟨rfl, rfl⟩
          go_wp2_with fail
          refine (clashes_nil w5).mono ?_
          rintro e w6 ⟨rfl, rfl⟩
          go_wp2_with (first
            | (go_at_call 13; refine (key_nil _ _ w5).mono ?_; rintro e w6 ⟨rfl, k6⟩)
            | (go_at_call 14; refine (hash_nil _ w6).mono ?_; rintro e w7 ⟨rfl, k7⟩)
            | (go_at_call 15; refine (mac_nil z32 _ w7).mono ?_; rintro e w8 ⟨rfl, k8⟩)
            | fail)
          go_ret
          exact ⟨rfl, ((HK5.out.trans k6 (fun _ e => e.elim)).trans k7 (fun _ e => e.elim)).trans k8 (fun _ e => e.elim)⟩
        · by_cases h4 : (L : Int) ≤ seq
          · obtain rfl : 10 = r := by rw [← hmm]; unfold refu; rw [if_neg (by omega), if_pos (.inr h4)]
            clear hmm
            go_wp2_with (first | (refine wpList_built rfl 28 _ rfl (.agg zc.toArray) (by exact exec_build _ _ rfl [] _ rfl (zk_build _)) ?_) | fail)
            rw [zc_eq]
            refine (seal_nil 0 0 _ _ w3 z32).mono ?_
            rintro e w4 ⟨rfl, k4⟩
            go_wp2_with (first | (refine wpList_built rfl 28 _ rfl (.agg zc.toArray) (by exact exec_build _ _ rfl [] _ rfl (zk_build _)) ?_) | fail)
            rw [zc_eq]
            refine (open_nil 0 0 _ _ w4 z32).mono ?_
            rintro e w5 ⟨rfl, k5⟩
            have HV5 := Lib.hid ((HV3.out.keep0 k4).keep0 k5)
            have HK5 := Lib.hid ((HK3.out.trans k4 (fun _ e => e.elim)).trans k5 (fun _ e => e.elim))
            clear k4 k5
            go_wp2_with fail
            refine (limit_any v m (imk p) z32 _ ps cl w5 HV5.out).mono ?_
            rintro e w6 ⟨rfl, rfl⟩
            go_wp2_with fail
            refine (limit_nil w5).mono ?_
            rintro e w6 ⟨rfl, rfl⟩
            go_wp2_with fail
            refine (clashes_nil w5).mono ?_
            rintro e w6 ⟨rfl, rfl⟩
            go_wp2_with (first
              | (go_at_call 13; refine (key_nil _ _ w5).mono ?_; rintro e w6 ⟨rfl, k6⟩)
              | (go_at_call 14; refine (hash_nil _ w6).mono ?_; rintro e w7 ⟨rfl, k7⟩)
              | (go_at_call 15; refine (mac_nil z32 _ w7).mono ?_; rintro e w8 ⟨rfl, k8⟩)
              | fail)
            go_ret
            exact ⟨rfl, ((HK5.out.trans k6 (fun _ e => e.elim)).trans k7 (fun _ e => e.elim)).trans k8 (fun _ e => e.elim)⟩
          · obtain rfl : 0 = r := by rw [← hmm]; unfold refu; rw [if_neg (by omega), if_neg (by omega)]
            clear hmm
            go_wp2_with (first | (refine wpList_built rfl 28 _ rfl (.agg zc.toArray) (by exact exec_build _ _ rfl [] _ rfl (zk_build _)) ?_) | fail)
            rw [zc_eq]
            refine (seal_nil 0 0 _ _ w3 z32).mono ?_
            rintro e w4 ⟨rfl, k4⟩
            go_wp2_with (first | (refine wpList_built rfl 28 _ rfl (.agg zc.toArray) (by exact exec_build _ _ rfl [] _ rfl (zk_build _)) ?_) | fail)
            rw [zc_eq]
            refine (open_nil 0 0 _ _ w4 z32).mono ?_
            rintro e w5 ⟨rfl, k5⟩
            have HV5 := Lib.hid ((HV3.out.keep0 k4).keep0 k5)
            have HK5 := Lib.hid ((HK3.out.trans k4 (fun _ e => e.elim)).trans k5 (fun _ e => e.elim))
            clear k4 k5
            go_wp2_with fail
            refine (limit_any v m (imk p) z32 _ ps cl w5 HV5.out).mono ?_
            rintro e w6 ⟨rfl, rfl⟩
            go_wp2_with fail
            refine (limit_nil w5).mono ?_
            rintro e w6 ⟨rfl, rfl⟩
            go_wp2_with fail
            refine (clashes_nil w5).mono ?_
            rintro e w6 ⟨rfl, rfl⟩
            go_wp2_with (first
              | (go_at_call 13; refine (key_nil _ _ w5).mono ?_; rintro e w6 ⟨rfl, k6⟩)
              | (go_at_call 14; refine (hash_nil _ w6).mono ?_; rintro e w7 ⟨rfl, k7⟩)
              | (go_at_call 15; refine (mac_nil z32 _ w7).mono ?_; rintro e w8 ⟨rfl, k8⟩)
              | fail)
            go_ret
            exact ⟨rfl, ((HK5.out.trans k6 (fun _ e => e.elim)).trans k7 (fun _ e => e.elim)).trans k8 (fun _ e => e.elim)⟩
end Go.Proofs.Ytmmpmncioifeoaa.Vault
namespace Go.Proofs.Ytmmpmncioifeoaa.Vault
set_option linter.unusedVariables false
set_option linter.unusedSimpArgs false
open Go Go.RowKit Kit
open Ideal (Arg)

theorem sealed_under : Try.prog.underlying 60 = some (.map 56 29) := by kernel_rfl
theorem sl_zero (w : World) : (zeroValue 29).run Try.prog w = .ok (.slice none 0 0) w := by kernel_rfl
theorem place_sz (p : Pl) : (Try.prog.info? 56).map (·.size) = some (bvs p.1).length := by rw [bvs_length, p.2]; kernel_rfl
/-- Whether two texts differ. -/
def dift (a b : List UInt8) : Bool := decide (a ≠ b)
/-- A vault behind a text that is kept. -/
theorem vs_put {F : Nat → Prop} {w w' : World} {v m : Nat} {mk : Value} {ms : List UInt8} {lim : Nat} {sx : List (Pl × (Value × List UInt8))} {cl cl' : Nat} {p : Pl} {x : Value} {t : List UInt8} (hv : Vb w v m mk ms lim (ents (·.1) sx) cl) (hnd : (sx.map (·.1)).Nodup) (hk : ∀ q ∈ sx, Kpt F w v m q.2.1 q.2.2)
    (hb : Blk w' v 62 (vcells mk ms lim m cl')) (hm : MapB w' m (ents (·.1) (upd sx p (x, t)))) (k : Kp (vF v m) w w') (hx : Kpt F w' v m x t) : Vs F w' v m mk ms lim (upd (sx.map fun q => (q.1, q.2.2)) p t) cl' := by
  refine ⟨upd sx p (x, t), upd_map (fun y : Value × List UInt8 => y.2) sx p (x, t), ⟨hb, hv.l, hm, hv.ne⟩, upd_keys _ _ _ hnd, fun q hq => ?_⟩
  rcases upd_mem _ _ _ _ hq with h | h
  · exact (hk q h).keep k (fun i e => .inr e)
  · rw [h]; exact hx
set_option maxHeartbeats 4000000 in
set_option maxRecDepth 100000 in
theorem note_any : NoteC dift (fun _ => True) := by
  intro F v m mk ms lim sl cl p T n c text w _ hv hF ha hc hl
  obtain ⟨sx, rfl, hvb, hnd, hk⟩ := hv
  show Calls Try.prog 20 #[.pointer (some ⟨v, 0, none⟩), .agg (bvs p.1).toArray, .slice T n c] w _
  have hlm := last_map (fun y : Value × List UInt8 => y.2) sx p
  have HL := fun (w' : World) (h : MapB w' m (ents (·.1) sx)) => look_last (P := Try.prog) place_keys sealed_under (·.1) w' (sl_zero w') m sx p h hnd
  have HST := Lib.hid (fun (w' : World) (x : Value × List UInt8) (h : MapB w' m (ents (·.1) sx)) => store_upd (P := Try.prog) place_keys sealed_under (·.1) w' m sx p x h hnd)
  have HND := Lib.hid hnd
  have HV := Lib.hid hvb; have HA := Lib.hid ha; have HK := Lib.hid hk
  have hml : m < w.heap.size := hvb.s.lt
  have HB0 : Hid (Kp nob w (w.alloc (.cells (bvs p.1).toArray 56)).drew ∧ Blk (w.alloc (.cells (bvs p.1).toArray 56)).drew w.heap.size 56 (bvs p.1)) := Lib.hid ⟨((Kp.refl nob w).alloc _).drew, (Blk.new w 56 (bvs p.1)).keep (Kp.refl nob _).drew (fun e => e)⟩
  have HPS := Lib.hid (place_sz p)
  have HLT := Lib.hid (And.intro hvb.b.lt hml)
  have HCL : Hid (text.length = n ∧ n ≤ 1099511627776) := Lib.hid ⟨ha.len, by have := ha.len; omega⟩
  have HFL := Lib.hid hF
  have HC34 := Lib.hid (fun (w' : World) (k : Nat) (h : Blk w' v 62 (vcells mk ms lim m k)) => (show w'.cell? ⟨v, 34, none⟩ = some (.map (some m)) by rw [h.cell]; exact vcells_at mk ms lim m k 1 hvb.l))
  have HCC := Lib.hid hc
  cases hls : last sx p with
  | none =>
    have HL2 : Hid (∀ w', MapB w' m (ents (·.1) sx) → (Instr.lookup 60 (.map (some m)) (pv p) true).run Try.prog w' = .ok (.tuple #[.slice none 0 0, .bool false]) w') := Lib.hid (fun w' h => by have := HL w' h; rw [hls] at this; exact this)
    have HCS : Hid (clash dift (sx.map fun q => (q.1, q.2.2)) p text = 0) := Lib.hid (by rw [clash, hlm, hls]; rfl)
    clear hls HL hlm hF ha hc hl hk hvb hnd hml
    go_enter Try.func20, Try.ntmps20
    go_wp2
    refine reg_begin (fun w' => Kp nob w w' ∧ Blk w' w.heap.size 56 (bvs p.1)) (by kernel_rfl) HB0.out (fun _ => ?_)
    generalize (w.alloc (.cells (bvs p.1).toArray 56)).drew = w1 at *
    refine reg_take (v := .pointer (some ⟨v, 0, none⟩)) 0 (some 9) rfl rfl (by kernel_rfl) (by kernel_rfl) (by kernel_rfl) (by rfl) HB0.out (fun w hw => by go_simp) ?_
    simp only [Act.put, List.setIfInBounds_toArray, List.set_cons_zero, List.set_cons_succ]
    refine reg_take (v := .pointer (some ⟨v, 0, none⟩)) 1 (some 10) rfl rfl (by kernel_rfl) (by kernel_rfl) (by kernel_rfl) (by rfl) HB0.out (fun w hw => by go_simp) ?_
    simp only [Act.put, List.setIfInBounds_toArray, List.set_cons_zero, List.set_cons_succ]
    refine reg_take (v := .pointer (some ⟨v, 34, none⟩)) 2 (some 11) rfl rfl (by kernel_rfl) (by kernel_rfl) (by kernel_rfl) (by rfl) HB0.out (fun w hw => by go_simp) ?_
    simp only [Act.put, List.setIfInBounds_toArray, List.set_cons_zero, List.set_cons_succ]
    refine reg_take (v := .map (some m)) 3 (some 12) rfl rfl (by kernel_rfl) (by kernel_rfl) (by kernel_rfl) (by rfl) HB0.out (fun w hw => by have hc := (HV.out.keep0 hw.1).map_; go_simp) ?_
    simp only [Act.put, List.setIfInBounds_toArray, List.set_cons_zero, List.set_cons_succ]
    refine reg_load 4 (some 13) 56 (.tmp 4) rfl rfl rfl (by kernel_rfl) (by kernel_rfl) (by kernel_rfl) (by rfl) HB0.out w.heap.size 0 rfl (bvs p.1) _ (fun w hw => hw.2.range) place_under rfl HPS.out ?_
    simp only [Act.put, List.setIfInBounds_toArray, List.set_cons_zero, List.set_cons_succ]
    refine reg_take (v := .tuple #[.slice none 0 0, .bool false]) 5 (some 14) rfl rfl (by kernel_rfl) (by kernel_rfl) (by kernel_rfl) (by rfl) HB0.out (fun w hw => by exact exec_look (.tmp 12) (.tmp 13) 60 true rfl (.map (some m)) (pv p) _ rfl rfl (HL2.out w (HV.out.keep0 hw.1).s)) ?_
    simp only [Act.put, List.setIfInBounds_toArray, List.set_cons_zero, List.set_cons_succ]
    refine reg_take (v := .tuple #[.slice none 0 0, .bool false]) 6 (some 8) rfl rfl (by kernel_rfl) (by kernel_rfl) (by kernel_rfl) (by rfl) HB0.out (fun w hw => by go_simp) ?_
    simp only [Act.put, List.setIfInBounds_toArray, List.set_cons_zero, List.set_cons_succ]
    refine reg_take (v := .slice none 0 0) 7 (some 15) rfl rfl (by kernel_rfl) (by kernel_rfl) (by kernel_rfl) (by rfl) HB0.out (fun w hw => by go_simp) ?_
    simp only [Act.put, List.setIfInBounds_toArray, List.set_cons_zero, List.set_cons_succ]
    refine reg_take (v := .bool false) 8 (some 16) rfl rfl (by kernel_rfl) (by kernel_rfl) (by kernel_rfl) (by rfl) HB0.out (fun w hw => by go_simp) ?_
    simp only [Act.put, List.setIfInBounds_toArray, List.set_cons_zero, List.set_cons_succ]
    refine reg_take (v := .slice none 0 0) 9 (some 6) rfl rfl (by kernel_rfl) (by kernel_rfl) (by kernel_rfl) (by rfl) HB0.out (fun w hw => by go_simp) ?_
    simp only [Act.put, List.setIfInBounds_toArray, List.set_cons_zero, List.set_cons_succ]
    refine reg_take (v := .bool false) 10 (some 7) rfl rfl (by kernel_rfl) (by kernel_rfl) (by kernel_rfl) (by rfl) HB0.out (fun w hw => by go_simp) ?_
    simp only [Act.put, List.setIfInBounds_toArray, List.set_cons_zero, List.set_cons_succ]
    refine reg_end (by kernel_rfl) ?_
    go_wp2
    have k5 : Kp nob w w1.drew := HB0.out.1.drew
    have HS5 : Hid (Kp (vF v m) w w1.drew ∧ Blk w1.drew w.heap.size 56 (bvs p.1) ∧ Blk w1.drew v 62 (vcells mk ms lim m cl)) := Lib.hid ⟨k5.nob _, HB0.out.2.keep (Kp.refl nob _).drew (fun e => e), (HV.out.keep0 k5).b⟩
    have HR5 : Hid (Row w1.drew T (bvs text)) := Lib.hid (HA.out.row.keep0 k5)
    have HM5 : Hid (MapB w1.drew m (ents (·.1) sx)) := Lib.hid ((HV.out.keep0 k5).s)
    clear k5
    refine reg_begin (fun w' => Kp (vF v m) w w' ∧ Blk w' w.heap.size 56 (bvs p.1) ∧ Blk w' v 62 (vcells mk ms lim m cl)) (by kernel_rfl) HS5.out (fun _ => ?_)
    generalize (w1).drew = w5 at *
    refine reg_take (v := .pointer (some ⟨v, 0, none⟩)) 0 (some 31) rfl rfl (by kernel_rfl) (by kernel_rfl) (by kernel_rfl) (by rfl) HS5.out (fun w hw => by go_simp) ?_
    simp only [Act.put, List.setIfInBounds_toArray, List.set_cons_zero, List.set_cons_succ]
    refine reg_take (v := .pointer (some ⟨v, 0, none⟩)) 1 (some 32) rfl rfl (by kernel_rfl) (by kernel_rfl) (by kernel_rfl) (by rfl) HS5.out (fun w hw => by go_simp) ?_
    simp only [Act.put, List.setIfInBounds_toArray, List.set_cons_zero, List.set_cons_succ]
    refine reg_take (v := .pointer (some ⟨v, 34, none⟩)) 2 (some 33) rfl rfl (by kernel_rfl) (by kernel_rfl) (by kernel_rfl) (by rfl) HS5.out (fun w hw => by go_simp) ?_
    simp only [Act.put, List.setIfInBounds_toArray, List.set_cons_zero, List.set_cons_succ]
    refine reg_take (v := .map (some m)) 3 (some 34) rfl rfl (by kernel_rfl) (by kernel_rfl) (by kernel_rfl) (by rfl) HS5.out (fun w hw => by have hc := HC34.out w cl hw.2.2; go_simp) ?_
    simp only [Act.put, List.setIfInBounds_toArray, List.set_cons_zero, List.set_cons_succ]
    refine reg_load 4 (some 35) 56 (.tmp 4) rfl rfl rfl (by kernel_rfl) (by kernel_rfl) (by kernel_rfl) (by rfl) HS5.out w.heap.size 0 rfl (bvs p.1) _ (fun w hw => hw.2.1.range) place_under rfl HPS.out ?_
    simp only [Act.put, List.setIfInBounds_toArray, List.set_cons_zero, List.set_cons_succ]
    refine reg_take (v := .slice T n c) 5 (some 36) rfl rfl (by kernel_rfl) (by kernel_rfl) (by kernel_rfl) (by rfl) HS5.out (fun w hw => by go_simp) ?_
    simp only [Act.put, List.setIfInBounds_toArray, List.set_cons_zero, List.set_cons_succ]
    refine reg_call 6 (some 37) rfl rfl (by kernel_rfl) (by rfl) _ _ (exec_func 25 _ _ [.slice T n c] rfl (by kernel_rfl) rfl) ?_
    refine (clone_any T n c text w5 HCL.out.1 HCL.out.2 HA.out.nil HR5.out).mono ?_
    rintro e w6 ⟨A6, c6, rfl, o6, k6, f6, n6⟩
    have HS6 : Hid (Kp (vF v m) w w6 ∧ Blk w6 w.heap.size 56 (bvs p.1) ∧ Blk w6 v 62 (vcells mk ms lim m cl)) := Lib.hid ⟨HS5.out.1.trans k6 (fun _ e => e.elim), HS5.out.2.1.keep k6 (fun e => e), HS5.out.2.2.keep k6 (fun e => e)⟩
    have HM6 := Lib.hid (HM5.out.keep k6 (fun e => e))
    have HO6 := Lib.hid o6; have HN6 := Lib.hid n6
    have HF6 : Hid (∀ k, ab A6 = some k → w.heap.size ≤ k ∧ k < w6.heap.size) := Lib.hid (fun k e => ⟨Nat.le_trans HS5.out.1.size (f6 k e), o6.lt k e⟩)
    clear o6 k6 f6 n6
    refine ⟨_, rfl, HS6.out, fun _ => ?_⟩
    simp only [Act.put, List.setIfInBounds_toArray, List.set_cons_zero, List.set_cons_succ]
    obtain ⟨w7, h7, m7, k7, z7⟩ := HST.out w6 (.slice A6 text.length c6, text) HM6.out
    have hvm : v ≠ m := HV.out.ne
    have K7 : Kp (vF v m) w w7 := HS6.out.1.trans k7 (fun i e => .inl (.inr e))
    have hb7 : Blk w7 v 62 (vcells mk ms lim m cl) := HS6.out.2.2.keep k7 (fun e => hvm e)
    refine reg_update (w' := w7) 7 none (.tmp 34) (.tmp 35) (.tmp 37) 60 rfl rfl rfl (by kernel_rfl) (by rfl) (.map (some m)) (pv p) (.slice A6 text.length c6) rfl rfl rfl h7 ⟨K7, HS6.out.2.1.keep k7 (fun e => by have e : w.heap.size = m := e; have := HLT.out.2; omega), hb7⟩ (fun _ => ?_)
    simp only [Act.put, List.setIfInBounds_toArray, List.set_cons_zero, List.set_cons_succ]
    refine reg_end (by kernel_rfl) ?_
    have hkp : Kpt F w7 v m (.slice A6 text.length c6) text := ⟨A6, c6, rfl, HO6.out.cap.1, HO6.out.cap.2, HN6.out, HO6.out.row.keep k7 (fun k e e2 => by have e2 : k = m := e2; have := (HF6.out k e).1; have := HLT.out.2; omega), fun k e => by
      have h1 := HF6.out k e
      have h2 := HLT.out
      exact ⟨fun e2 => by have := HFL.out k e2; omega, by omega, by omega, by omega⟩⟩
    have hvs := vs_put HV.out HND.out HK.out hb7 m7 K7 hkp
    clear hvm h7 m7 z7
    go_wp2
    refine bodyPost_end (results_none rfl _ _ _) rfl ⟨rfl, ?_, K7⟩
    rw [HCS.out, Nat.add_zero]
    exact hvs
  | some xu =>
    obtain ⟨x, u⟩ := xu
    have HL2 : Hid (∀ w', MapB w' m (ents (·.1) sx) → (Instr.lookup 60 (.map (some m)) (pv p) true).run Try.prog w' = .ok (.tuple #[x, .bool true]) w') := Lib.hid (fun w' h => by have := HL w' h; rw [hls] at this; exact this)
    obtain ⟨X, cX, hx0, hx1, hx2, hx3, hx4, hx5⟩ := hk _ (last_mem _ _ _ hls)
    simp only at hx0 hx1 hx2 hx3 hx4 hx5
    subst hx0
    have HX4 := Lib.hid hx4
    obtain ⟨nu, hnu⟩ : ∃ k, k = u.length := ⟨_, rfl⟩
    rw [← hnu] at HL2
    have HNU := Lib.hid hnu
    by_cases hut : u = text
    · have HE := Lib.hid (fun (w' : World) (k : Kp nob w w') => (show Calls Try.prog 24 #[.slice X nu cX, .slice T n c] w' fun e w2 => e = .returned (.bool true) ∧ w' = w2 by
        have := Ideal.equal_any X T nu cX n c u text w' HNU.out.symm HCL.out.1 (HX4.out.keep0 k) (HA.out.row.keep0 k)
        rw [decide_eq_true hut] at this; exact this))
      have HCS : Hid (clash dift (sx.map fun q => (q.1, q.2.2)) p text = 0) := Lib.hid (by rw [clash, hlm, hls]; simp [dift, hut])
      have HUS : Hid (upd (sx.map fun q => (q.1, q.2.2)) p text = sx.map fun q => (q.1, q.2.2)) := Lib.hid (upd_same _ _ _ (by rw [hlm, hls, ← hut]; rfl))
      clear hls HL hlm hF ha hc hl hk hvb hnd hml hx1 hx2 hx3 hx4 hx5 hnu
      go_enter Try.func20, Try.ntmps20
      go_wp2
      refine reg_begin (fun w' => Kp nob w w' ∧ Blk w' w.heap.size 56 (bvs p.1)) (by kernel_rfl) HB0.out (fun _ => ?_)
      generalize (w.alloc (.cells (bvs p.1).toArray 56)).drew = w1 at *
      refine reg_take (v := .pointer (some ⟨v, 0, none⟩)) 0 (some 9) rfl rfl (by kernel_rfl) (by kernel_rfl) (by kernel_rfl) (by rfl) HB0.out (fun w hw => by go_simp) ?_
      simp only [Act.put, List.setIfInBounds_toArray, List.set_cons_zero, List.set_cons_succ]
      refine reg_take (v := .pointer (some ⟨v, 0, none⟩)) 1 (some 10) rfl rfl (by kernel_rfl) (by kernel_rfl) (by kernel_rfl) (by rfl) HB0.out (fun w hw => by go_simp) ?_
      simp only [Act.put, List.setIfInBounds_toArray, List.set_cons_zero, List.set_cons_succ]
      refine reg_take (v := .pointer (some ⟨v, 34, none⟩)) 2 (some 11) rfl rfl (by kernel_rfl) (by kernel_rfl) (by kernel_rfl) (by rfl) HB0.out (fun w hw => by go_simp) ?_
      simp only [Act.put, List.setIfInBounds_toArray, List.set_cons_zero, List.set_cons_succ]
      refine reg_take (v := .map (some m)) 3 (some 12) rfl rfl (by kernel_rfl) (by kernel_rfl) (by kernel_rfl) (by rfl) HB0.out (fun w hw => by have hc := (HV.out.keep0 hw.1).map_; go_simp) ?_
      simp only [Act.put, List.setIfInBounds_toArray, List.set_cons_zero, List.set_cons_succ]
      refine reg_load 4 (some 13) 56 (.tmp 4) rfl rfl rfl (by kernel_rfl) (by kernel_rfl) (by kernel_rfl) (by rfl) HB0.out w.heap.size 0 rfl (bvs p.1) _ (fun w hw => hw.2.range) place_under rfl HPS.out ?_
      simp only [Act.put, List.setIfInBounds_toArray, List.set_cons_zero, List.set_cons_succ]
      refine reg_take (v := .tuple #[.slice X nu cX, .bool true]) 5 (some 14) rfl rfl (by kernel_rfl) (by kernel_rfl) (by kernel_rfl) (by rfl) HB0.out (fun w hw => by exact exec_look (.tmp 12) (.tmp 13) 60 true rfl (.map (some m)) (pv p) _ rfl rfl (HL2.out w (HV.out.keep0 hw.1).s)) ?_
      simp only [Act.put, List.setIfInBounds_toArray, List.set_cons_zero, List.set_cons_succ]
      refine reg_take (v := .tuple #[.slice X nu cX, .bool true]) 6 (some 8) rfl rfl (by kernel_rfl) (by kernel_rfl) (by kernel_rfl) (by rfl) HB0.out (fun w hw => by go_simp) ?_
      simp only [Act.put, List.setIfInBounds_toArray, List.set_cons_zero, List.set_cons_succ]
      refine reg_take (v := .slice X nu cX) 7 (some 15) rfl rfl (by kernel_rfl) (by kernel_rfl) (by kernel_rfl) (by rfl) HB0.out (fun w hw => by go_simp) ?_
      simp only [Act.put, List.setIfInBounds_toArray, List.set_cons_zero, List.set_cons_succ]
      refine reg_take (v := .bool true) 8 (some 16) rfl rfl (by kernel_rfl) (by kernel_rfl) (by kernel_rfl) (by rfl) HB0.out (fun w hw => by go_simp) ?_
      simp only [Act.put, List.setIfInBounds_toArray, List.set_cons_zero, List.set_cons_succ]
      refine reg_take (v := .slice X nu cX) 9 (some 6) rfl rfl (by kernel_rfl) (by kernel_rfl) (by kernel_rfl) (by rfl) HB0.out (fun w hw => by go_simp) ?_
      simp only [Act.put, List.setIfInBounds_toArray, List.set_cons_zero, List.set_cons_succ]
      refine reg_take (v := .bool true) 10 (some 7) rfl rfl (by kernel_rfl) (by kernel_rfl) (by kernel_rfl) (by rfl) HB0.out (fun w hw => by go_simp) ?_
      simp only [Act.put, List.setIfInBounds_toArray, List.set_cons_zero, List.set_cons_succ]
      refine reg_end (by kernel_rfl) ?_
      go_wp2_with fail
      refine (HE.out _ HB0.out.1).mono ?_
      rintro e w2 ⟨rfl, rfl⟩
      go_wp2
      refine bodyPost_ret (results_none rfl _ _ _) rfl ⟨rfl, ?_, HB0.out.1.nob _⟩
      rw [HCS.out, HUS.out, Nat.add_zero]
      exact ⟨sx, rfl, HV.out.keep0 HB0.out.1, HND.out, fun q hq => (HK.out q hq).keep HB0.out.1 (fun i e => e.elim)⟩
    · have HE := Lib.hid (fun (w' : World) (k : Kp nob w w') => (show Calls Try.prog 24 #[.slice X nu cX, .slice T n c] w' fun e w2 => e = .returned (.bool false) ∧ w' = w2 by
        have := Ideal.equal_any X T nu cX n c u text w' HNU.out.symm HCL.out.1 (HX4.out.keep0 k) (HA.out.row.keep0 k)
        rw [decide_eq_false hut] at this; exact this))
      have HCS : Hid (clash dift (sx.map fun q => (q.1, q.2.2)) p text = 1) := Lib.hid (by rw [clash, hlm, hls]; simp [dift, hut])
      obtain ⟨cl1, hcl1⟩ : ∃ k, k = cl + 1 := ⟨_, rfl⟩
      have e1 : IntKind.i64.wrap ((cl : Int) + 1) = (cl1 : Int) := by rw [IntWalk.i64_in _ (by omega)]; omega
      have HC1 := Lib.hid hcl1; have HW1 := Lib.hid e1
      clear hls HL hlm hF ha hc hl hk hvb hnd hml hx1 hx2 hx3 hx4 hx5 hnu hcl1 e1
      go_enter Try.func20, Try.ntmps20
      go_wp2
      refine reg_begin (fun w' => Kp nob w w' ∧ Blk w' w.heap.size 56 (bvs p.1)) (by kernel_rfl) HB0.out (fun _ => ?_)
      generalize (w.alloc (.cells (bvs p.1).toArray 56)).drew = w1 at *
      refine reg_take (v := .pointer (some ⟨v, 0, none⟩)) 0 (some 9) rfl rfl (by kernel_rfl) (by kernel_rfl) (by kernel_rfl) (by rfl) HB0.out (fun w hw => by go_simp) ?_
      simp only [Act.put, List.setIfInBounds_toArray, List.set_cons_zero, List.set_cons_succ]
      refine reg_take (v := .pointer (some ⟨v, 0, none⟩)) 1 (some 10) rfl rfl (by kernel_rfl) (by kernel_rfl) (by kernel_rfl) (by rfl) HB0.out (fun w hw => by go_simp) ?_
      simp only [Act.put, List.setIfInBounds_toArray, List.set_cons_zero, List.set_cons_succ]
      refine reg_take (v := .pointer (some ⟨v, 34, none⟩)) 2 (some 11) rfl rfl (by kernel_rfl) (by kernel_rfl) (by kernel_rfl) (by rfl) HB0.out (fun w hw => by go_simp) ?_
      simp only [Act.put, List.setIfInBounds_toArray, List.set_cons_zero, List.set_cons_succ]
      refine reg_take (v := .map (some m)) 3 (some 12) rfl rfl (by kernel_rfl) (by kernel_rfl) (by kernel_rfl) (by rfl) HB0.out (fun w hw => by have hc := (HV.out.keep0 hw.1).map_; go_simp) ?_
      simp only [Act.put, List.setIfInBounds_toArray, List.set_cons_zero, List.set_cons_succ]
      refine reg_load 4 (some 13) 56 (.tmp 4) rfl rfl rfl (by kernel_rfl) (by kernel_rfl) (by kernel_rfl) (by rfl) HB0.out w.heap.size 0 rfl (bvs p.1) _ (fun w hw => hw.2.range) place_under rfl HPS.out ?_
      simp only [Act.put, List.setIfInBounds_toArray, List.set_cons_zero, List.set_cons_succ]
      refine reg_take (v := .tuple #[.slice X nu cX, .bool true]) 5 (some 14) rfl rfl (by kernel_rfl) (by kernel_rfl) (by kernel_rfl) (by rfl) HB0.out (fun w hw => by exact exec_look (.tmp 12) (.tmp 13) 60 true rfl (.map (some m)) (pv p) _ rfl rfl (HL2.out w (HV.out.keep0 hw.1).s)) ?_
      simp only [Act.put, List.setIfInBounds_toArray, List.set_cons_zero, List.set_cons_succ]
      refine reg_take (v := .tuple #[.slice X nu cX, .bool true]) 6 (some 8) rfl rfl (by kernel_rfl) (by kernel_rfl) (by kernel_rfl) (by rfl) HB0.out (fun w hw => by go_simp) ?_
      simp only [Act.put, List.setIfInBounds_toArray, List.set_cons_zero, List.set_cons_succ]
      refine reg_take (v := .slice X nu cX) 7 (some 15) rfl rfl (by kernel_rfl) (by kernel_rfl) (by kernel_rfl) (by rfl) HB0.out (fun w hw => by go_simp) ?_
      simp only [Act.put, List.setIfInBounds_toArray, List.set_cons_zero, List.set_cons_succ]
      refine reg_take (v := .bool true) 8 (some 16) rfl rfl (by kernel_rfl) (by kernel_rfl) (by kernel_rfl) (by rfl) HB0.out (fun w hw => by go_simp) ?_
      simp only [Act.put, List.setIfInBounds_toArray, List.set_cons_zero, List.set_cons_succ]
      refine reg_take (v := .slice X nu cX) 9 (some 6) rfl rfl (by kernel_rfl) (by kernel_rfl) (by kernel_rfl) (by rfl) HB0.out (fun w hw => by go_simp) ?_
      simp only [Act.put, List.setIfInBounds_toArray, List.set_cons_zero, List.set_cons_succ]
      refine reg_take (v := .bool true) 10 (some 7) rfl rfl (by kernel_rfl) (by kernel_rfl) (by kernel_rfl) (by rfl) HB0.out (fun w hw => by go_simp) ?_
      simp only [Act.put, List.setIfInBounds_toArray, List.set_cons_zero, List.set_cons_succ]
      refine reg_end (by kernel_rfl) ?_
      have e1 := HW1.out
      have c35 := (HV.out.keep0 HB0.out.1).cl_
      have f35 : w1.frozen? ⟨v, 35, none⟩ = false := (HV.out.keep0 HB0.out.1).b.frozen _
      go_wp2_with fail
      refine (HE.out _ HB0.out.1).mono ?_
      rintro e w2 ⟨rfl, rfl⟩
      go_wp2
      have k4 : Kp (vF v m) w (w1.setCell ⟨v, 35, none⟩ (.int .i64 (cl1 : Int))).drew := ((HB0.out.1.nob (vF v m)).setCell (p := ⟨v, 35, none⟩) (.inl (.inl rfl)) _).drew
      have b4 : Blk (w1.setCell ⟨v, 35, none⟩ (.int .i64 (cl1 : Int))) v 62 (vcells mk ms lim m cl1) := by
        have := (HV.out.keep0 HB0.out.1).b.set_ 35 (.int .i64 (cl1 : Int))
        rwa [vcells_cl _ _ _ _ _ _ HV.out.l] at this
      have kv : Kp (fun i => i = v) w1 (w1.setCell ⟨v, 35, none⟩ (.int .i64 (cl1 : Int))).drew := ((Kp.refl (fun i => i = v) w1).setCell (p := ⟨v, 35, none⟩) (.inl rfl) _).drew
      have HS5 : Hid (Kp (vF v m) w (w1.setCell ⟨v, 35, none⟩ (.int .i64 (cl1 : Int))).drew ∧ Blk (w1.setCell ⟨v, 35, none⟩ (.int .i64 (cl1 : Int))).drew w.heap.size 56 (bvs p.1) ∧ Blk (w1.setCell ⟨v, 35, none⟩ (.int .i64 (cl1 : Int))).drew v 62 (vcells mk ms lim m cl1)) := Lib.hid ⟨k4, HB0.out.2.keep kv (fun e => by have e : w.heap.size = v := e; have := HLT.out.1; omega), b4.keep (Kp.refl nob _).drew (fun e => e)⟩
      have HR5 : Hid (Row (w1.setCell ⟨v, 35, none⟩ (.int .i64 (cl1 : Int))).drew T (bvs text)) := Lib.hid (by
        rcases HA.out.far with h | h
        · rw [h]; exact Row.nil _ _
        · exact HA.out.row.keep k4 h)
      have HM5 : Hid (MapB (w1.setCell ⟨v, 35, none⟩ (.int .i64 (cl1 : Int))).drew m (ents (·.1) sx)) := Lib.hid ((HV.out.keep0 HB0.out.1).s.keep kv (fun e => HV.out.ne e.symm))
      clear k4 b4 kv c35 f35 e1
      refine reg_begin (fun w' => Kp (vF v m) w w' ∧ Blk w' w.heap.size 56 (bvs p.1) ∧ Blk w' v 62 (vcells mk ms lim m cl1)) (by kernel_rfl) HS5.out (fun _ => ?_)
      generalize (w1.setCell ⟨v, 35, none⟩ (.int .i64 (cl1 : Int))).drew = w5 at *
      refine reg_take (v := .pointer (some ⟨v, 0, none⟩)) 0 (some 31) rfl rfl (by kernel_rfl) (by kernel_rfl) (by kernel_rfl) (by rfl) HS5.out (fun w hw => by go_simp) ?_
      simp only [Act.put, List.setIfInBounds_toArray, List.set_cons_zero, List.set_cons_succ]
      refine reg_take (v := .pointer (some ⟨v, 0, none⟩)) 1 (some 32) rfl rfl (by kernel_rfl) (by kernel_rfl) (by kernel_rfl) (by rfl) HS5.out (fun w hw => by go_simp) ?_
      simp only [Act.put, List.setIfInBounds_toArray, List.set_cons_zero, List.set_cons_succ]
      refine reg_take (v := .pointer (some ⟨v, 34, none⟩)) 2 (some 33) rfl rfl (by kernel_rfl) (by kernel_rfl) (by kernel_rfl) (by rfl) HS5.out (fun w hw => by go_simp) ?_
      simp only [Act.put, List.setIfInBounds_toArray, List.set_cons_zero, List.set_cons_succ]
      refine reg_take (v := .map (some m)) 3 (some 34) rfl rfl (by kernel_rfl) (by kernel_rfl) (by kernel_rfl) (by rfl) HS5.out (fun w hw => by have hc := HC34.out w cl1 hw.2.2; go_simp) ?_
      simp only [Act.put, List.setIfInBounds_toArray, List.set_cons_zero, List.set_cons_succ]
      refine reg_load 4 (some 35) 56 (.tmp 4) rfl rfl rfl (by kernel_rfl) (by kernel_rfl) (by kernel_rfl) (by rfl) HS5.out w.heap.size 0 rfl (bvs p.1) _ (fun w hw => hw.2.1.range) place_under rfl HPS.out ?_
      simp only [Act.put, List.setIfInBounds_toArray, List.set_cons_zero, List.set_cons_succ]
      refine reg_take (v := .slice T n c) 5 (some 36) rfl rfl (by kernel_rfl) (by kernel_rfl) (by kernel_rfl) (by rfl) HS5.out (fun w hw => by go_simp) ?_
      simp only [Act.put, List.setIfInBounds_toArray, List.set_cons_zero, List.set_cons_succ]
      refine reg_call 6 (some 37) rfl rfl (by kernel_rfl) (by rfl) _ _ (exec_func 25 _ _ [.slice T n c] rfl (by kernel_rfl) rfl) ?_
      refine (clone_any T n c text w5 HCL.out.1 HCL.out.2 HA.out.nil HR5.out).mono ?_
      rintro e w6 ⟨A6, c6, rfl, o6, k6, f6, n6⟩
      have HS6 : Hid (Kp (vF v m) w w6 ∧ Blk w6 w.heap.size 56 (bvs p.1) ∧ Blk w6 v 62 (vcells mk ms lim m cl1)) := Lib.hid ⟨HS5.out.1.trans k6 (fun _ e => e.elim), HS5.out.2.1.keep k6 (fun e => e), HS5.out.2.2.keep k6 (fun e => e)⟩
      have HM6 := Lib.hid (HM5.out.keep k6 (fun e => e))
      have HO6 := Lib.hid o6; have HN6 := Lib.hid n6
      have HF6 : Hid (∀ k, ab A6 = some k → w.heap.size ≤ k ∧ k < w6.heap.size) := Lib.hid (fun k e => ⟨Nat.le_trans HS5.out.1.size (f6 k e), o6.lt k e⟩)
      clear o6 k6 f6 n6
      refine ⟨_, rfl, HS6.out, fun _ => ?_⟩
      simp only [Act.put, List.setIfInBounds_toArray, List.set_cons_zero, List.set_cons_succ]
      obtain ⟨w7, h7, m7, k7, z7⟩ := HST.out w6 (.slice A6 text.length c6, text) HM6.out
      have hvm : v ≠ m := HV.out.ne
      have K7 : Kp (vF v m) w w7 := HS6.out.1.trans k7 (fun i e => .inl (.inr e))
      have hb7 : Blk w7 v 62 (vcells mk ms lim m cl1) := HS6.out.2.2.keep k7 (fun e => hvm e)
      refine reg_update (w' := w7) 7 none (.tmp 34) (.tmp 35) (.tmp 37) 60 rfl rfl rfl (by kernel_rfl) (by rfl) (.map (some m)) (pv p) (.slice A6 text.length c6) rfl rfl rfl h7 ⟨K7, HS6.out.2.1.keep k7 (fun e => by have e : w.heap.size = m := e; have := HLT.out.2; omega), hb7⟩ (fun _ => ?_)
      simp only [Act.put, List.setIfInBounds_toArray, List.set_cons_zero, List.set_cons_succ]
      refine reg_end (by kernel_rfl) ?_
      have hkp : Kpt F w7 v m (.slice A6 text.length c6) text := ⟨A6, c6, rfl, HO6.out.cap.1, HO6.out.cap.2, HN6.out, HO6.out.row.keep k7 (fun k e e2 => by have e2 : k = m := e2; have := (HF6.out k e).1; have := HLT.out.2; omega), fun k e => by
        have h1 := HF6.out k e
        have h2 := HLT.out
        exact ⟨fun e2 => by have := HFL.out k e2; omega, by omega, by omega, by omega⟩⟩
      have hvs := vs_put HV.out HND.out HK.out hb7 m7 K7 hkp
      clear hvm h7 m7 z7
      go_wp2
      refine bodyPost_end (results_none rfl _ _ _) rfl ⟨rfl, ?_, K7⟩
      rw [HCS.out, ← HC1.out]
      exact hvs
end Go.Proofs.Ytmmpmncioifeoaa.Vault
namespace Go.Proofs.Ytmmpmncioifeoaa
open Go
theorem own : ownKnob Try.prog.godebug = none := by kernel_rfl
theorem laidOut : laidOutB Try.prog = true := by kernel_rfl
end Go.Proofs.Ytmmpmncioifeoaa
