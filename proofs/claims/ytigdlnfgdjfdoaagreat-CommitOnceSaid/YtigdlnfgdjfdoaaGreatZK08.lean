/- Lemmas: AppB RegI Cat Rep IdealB IdealE. -/
import Derived.Test.YtigdlnfgdjfdoaaGreatZK06
import Derived.Test.YtigdlnfgdjfdoaaGreatZK07
import Derived.RangeFuncNested
import Derived.RangeFuncCalls
import Derived.OrdersIn
import Derived.TacticsIn
import Derived.Lib.MakeNoZero
import Derived.Laws.Cover3
set_option maxHeartbeats 4000000
set_option maxRecDepth 100000
set_option linter.unusedVariables false
set_option linter.unusedSimpArgs false
namespace Go.Proofs.YtigdlnfgdjfdoaaGreat
namespace Kit
open Go Go.RowKit
theorem wpList_appZero {P : Program} (w : World) {ops : Array Oper} {rest : List Oper} {o : Oper} {a : Act} {Q : Exit → Act → World → Prop} (hgd : o.guard = none) (s x : Operand) (t tn : TypeId)
    (ho : o.op = .call { callee := .builtin .append, args := #[s, x], argTypes := #[t, tn] })
    (e : TypeId) (i : TypeInfo) (kq kn : IntKind) (ht : P.underlying t = some (.slice e)) (htn : P.underlying tn = some (.int kn)) (hi : P.info? e = some i) (hz : i.zero = some (.int .u8 0))
    (hsize : i.size = 1) (hby : i.bytes = 1) (A : Option Addr) (n c : Nat) (xs : List Value) (hs : a.eval s = .slice A n c) (hown : Own e w A n c xs) (k : Nat) (hx : a.eval x = .int kq k) (h63 : n + k ≤ 140737488355328)
    (h : ∀ A' c' w', Own e w' A' (n + k) c' (xs ++ bvs (List.replicate k 0)) → w.grownBy w' (ab A) → (ab A' = ab A ∨ ab A' = some w.heap.size) → wpList P ops Q rest (a.put o.dst (.slice A' (n + k) c')) w') : wpList P ops Q (o :: rest) a w := by
 refine wpList_plain hgd fun _ hK => ?_
 obtain ⟨A', c', w', hr, h2, h3, h4⟩ := run_appZero (P := P) w t tn o.type e i kq kn ht htn hi hz hsize hby A n c xs hown k h63
 unfold Oper.wp execOp
 simp only [ho, resolve, invoke, builtin, Sem.run_bind, Sem.run_pure, Result.andThen_ok, List.map_toArray, List.map_cons, List.map_nil, hs, hx, hr]
 exact hK _ _ (h A' c' w' h2 h3 h4)
theorem Own.zero {e : TypeId} {w : World} {A : Option Addr} {n c : Nat} {xs : List Value} (h : Own e w A n c xs) : Own e w A 0 c [] := by
 refine ⟨rfl, ?_⟩
 rcases h.2 with ⟨h1, h2⟩ | ⟨g, cap, cur, h1, h0, hg, hnc, hcm, hcs, ht⟩
 · injection h1 with h1 _ h3
   exact .inl ⟨by rw [h1, h3], rfl⟩
 · injection h1 with h1 _ h3
   exact .inr ⟨g, cap, cur, by rw [h1, h3], h0, hg, Nat.zero_le _, hcm, hcs, by simp⟩
def noDefer (ops : Array Oper) : Bool := ops.all fun o => match o.op with | .defer _ => false | _ => true
theorem noDefer_spec {ops : Array Oper} (h : noDefer ops = true) (j : Nat) (o : Oper) (ho : ops[j]? = some o) : ∀ c, o.op ≠ .defer c := by
 intro c hc
 obtain ⟨hj, he⟩ := Array.getElem?_eq_some_iff.1 ho
 have := Array.all_eq_true.1 h j hj
 rw [he, hc] at this
 cases this
section
variable {P : Program} {l n : Nat} {ops : Array Oper} {Q : Exit → Act → World → Prop}
theorem callsIn_of {f : FuncId} {args : Array Value} {w : World} {R : Ending → World → Prop} (h : Calls P f args w R) : CallsIn (Fence.wide.inRound l) n P f args w R := CallsIn.inRound l (callsIn_wide.2 h)
theorem rowsIn_of {row : String} {args : Array Value} {w : World} {R : Value → World → Prop} (h : Rows P row args w R) : RowsIn (Fence.wide.inRound l) n P row args w R :=
 fun c cs _ => let ⟨v, w', r, s⟩ := h c cs; ⟨v, w', r, stepsIn_wide.2 s⟩
theorem oper_in {o : Oper} {a : Act} {w : World} {K : Act → World → Prop} (hd : ∀ c, o.op ≠ .defer c) (h : o.wp P a w K (NoPanic Q)) : o.wpIn (Fence.wide.inRound l) n P a w K Q := by
 unfold Oper.wp at h
 unfold Oper.wpIn
 rw [show (Fence.wide.inRound l).round = some l from rfl, Oper.semAt_some l _ _ hd]
 refine ⟨fun _ _ => trivial, ?_⟩
 generalize (execOp a.eval o).run P w = r at *
 cases r with
 | ok x w' =>
   cases x with
   | enter f args =>
     refine ⟨(fun e => by cases e), callsIn_of (Calls.mono h ?_)⟩
     intro e w'' he
     cases e with
     | returned v => exact he
     | panicked c => exact he.elim
     | outgrown => exact he
   | row row args => exact ⟨(fun e => by cases e), rowsIn_of h⟩
   | _ => first | exact h | exact False.elim h
 | halt x w' => cases x <;> first | exact False.elim h | exact h
theorem wpOp_in (hQ : ∀ a w, ¬ Q .outgrown a w) {i : Nat} {K : Act → World → Prop} {a : Act} {w : World} (hd : noDefer ops = true) (h : wpOp P ops (NoPanic Q) i K a w) : wpOpIn (Fence.wide.inRound l) n P ops Q i K a w := by
 unfold wpOp at h
 unfold wpOpIn
 cases ho : ops[i]? with
 | none => simpa [ho] using h
 | some o =>
   simp only [ho] at h ⊢
   by_cases hw : Region.wanted o (yielded ops a.tmps) = true
   · simp only [hw, if_true] at h ⊢
     rcases h with h | ⟨_, _, _, h⟩
     · exact oper_in (noDefer_spec hd i o ho) h
     · exact (hQ _ _ h).elim
   · simp only [hw] at h ⊢
     exact ⟨fun _ _ => trivial, h⟩
theorem wpAny_in (hQ : ∀ a w, ¬ Q .outgrown a w) {md : Region.Mode} (hd : noDefer ops = true) : ∀ (fuel : Nat) (listed : Array Bool) (a : Act) (w : World), wpAny P md ops (NoPanic Q) fuel listed a w → wpAnyIn (Fence.wide.inRound l) n P md ops Q fuel listed a w
 | 0, _, _, _, h => h
 | fuel + 1, _, _, _, h => ⟨h.1, fun i hi => wpOp_in hQ hd (wpOp_mono (fun a' w' h' => wpAny_in hQ hd fuel _ a' w' h') (h.2 i hi))⟩
theorem reg_beginI {id : Nat} {a : Act} {w : World} (S : World → Prop) (hQ : ∀ a w, ¬ Q .outgrown a w) (hd : noDefer ops = true) (hm : P.follows .mixedOrders = true) (hS : S w.drew)
    (h : S w.drew → wpAnyH P .any ops (NoPanic Q) S ops.size (Array.replicate ops.size false) a w.drew) : (Code.region id ops true).wpIn (Fence.wide.inRound l) n P Q a w :=
 wpIn_region_any hm (wpAny_in hQ hd _ _ _ _ (wpAny_of_held _ _ _ _ (h hS)))
end
/-! What was kept, in the words of the law of ranges. -/
theorem Kp.others {F : Nat → Prop} {w w' : World} (h : Kp F w w') (hF : ∀ k o, F k → w.heap[k]? = some o → o.isCells = true) : KeepsOthers w w' :=
 ⟨h.size, fun k o hk ho => by
  by_cases e : F k
  · rw [hF k o e hk] at ho; cases ho
  · exact (h.block k (Array.getElem?_eq_some_iff.1 hk).1 e).trans hk⟩
theorem Kp.others0 {w w' : World} (h : Kp Kit.nob w w') : KeepsOthers w w' := h.others (fun _ _ e => e.elim)
theorem kp_t {F : Nat → Prop} {A B C : World} (h : Kp F A B) (k : Kp F B C) : Kp F A C := h.trans k (fun _ e => .inl e)
theorem Kp.of_grown {F : Nat → Prop} {W W' : World} {row : Option Nat} (g : W.grownBy W' row) (hF : ∀ k, row = some k → F k) : Kp F W W' :=
 ⟨g.os, g.tape, g.output, g.size, fun k hk hn => g.block k hk (fun e => hn (hF k e.symm))⟩
end Kit
namespace Cat
open Go Go.RowKit Kit
open Sha (Pc PcsOk catP catP_snoc catP_le)
theorem u8s_under : Tryz.prog.underlying 58 = some (.slice 5) := by kernel_rfl
theorem u8_size : ∀ w, (sizeOf 5).run Tryz.prog w = .ok 1 w := fun _ => by kernel_rfl
theorem slice_to (A : Option Addr) (n c i : Nat) (hi : i ≤ c) (w : World) : (Instr.slice 58 (.slice A n c) none (some (.int .i64 i)) none).run Tryz.prog w = .ok (.slice A i c) w := by
 have he : Tryz.prog.elem 58 = 5 := by kernel_rfl
 rw [run_slice_h w 58 A n c (by kernel_rfl) .i64 i (by omega) (by omega), he, u8_size]
 cases A <;> simp [Result.andThen, sliced, Addr.add]
theorem slice_from (A : Option Addr) (n c i : Nat) (hi : i ≤ n) (w : World) : (Instr.slice 58 (.slice A n c) (some (.int .i64 i)) none none).run Tryz.prog w = .ok (.slice (cutA A c i) (n - i) (c - i)) w :=
 run_slice_from _ 5 u8s_under (fun _ => by kernel_rfl) A n c i hi w
theorem grow_any (N : Nat) (w : World) (hN : N ≤ 1099511627776) :
    Calls Tryz.prog 165 #[.slice none 0 0, .int .i64 N] w fun e w' => ∃ A c, e = .returned (.slice A 0 c) ∧ Kit.Own 5 w' A 0 c [] ∧ Kp nob w w' ∧ ∀ k, ab A = some k → w.heap.size ≤ k := by
 have d0 : decide ((N : Int) < 0) = false := by simp
 go_enter Tryz.func165, Tryz.ntmps165
 by_cases h0 : N = 0
 · subst h0
   go_wp2
   go_ret
   exact ⟨none, 0, rfl, Kit.Own.nil _ _, Kp.refl _ _, fun _ e => by cases e⟩
 · have d1 : decide ((0 : Int) < (N : Int)) = true := by simp; omega
   have hs0 := slice_to none 0 0 0 (Nat.le_refl _)
   obtain ⟨i, hi, hz0, hz1, hz2⟩ := info_parts (show (Tryz.prog.info? 5).map (fun i => (i.zero, i.size, i.bytes)) = some (some (.int .u8 0), 1, 1) by kernel_rfl)
   have hz : i.zero = some (.int .u8 0) ∧ i.size = 1 ∧ i.bytes = 1 := ⟨hz0, hz1, hz2⟩
   have HI := Lib.hid hi; have HZ := Lib.hid hz
   clear hi hz hz0 hz1 hz2
   go_wp2_with (first
    | (refine wpList_appZero _ rfl (.tmp 20) (.tmp 21) 58 3 rfl 5 i .i64 .i64 u8s_under (by kernel_rfl) HI.out HZ.out.1 HZ.out.2.1 HZ.out.2.2 none 0 0 [] rfl (Kit.Own.nil _ _) N rfl (by omega) ?_
       intro A c w1 hown hg hab
       have HO := Lib.hid hown.zero
       have HK := Lib.hid (Kp.of_grown (F := nob) hg (fun k e => by cases e))
       have HA : Hid (∀ k, ab A = some k → w.heap.size ≤ k) := Lib.hid (fun k e => by
        rcases hab with h | h
        · rw [h] at e; cases e
        · rw [h] at e; cases e; exact Nat.le_refl _)
       have hsl := slice_to A (0 + N) c 0 (Nat.zero_le _)
       clear hown hg hab)
    | fail)
   go_ret
   exact ⟨A, c, rfl, HO.out, HK.out, HA.out⟩
theorem concat_any (B : Option Addr) (m d : Nat) (ps : List Pc) (w : World) (hm : ps.length = m) (hr : Row w B (ps.map Pc.v)) (hp : PcsOk w nob ps) (hnil : ∀ p ∈ ps, p.A = none → p.c = 0) (hmm : m ≤ 1099511627776) (hl : (catP ps).length ≤ 1099511627776) :
    Calls Tryz.prog 163 #[.slice B m d] w fun e w' => ∃ A c, e = .returned (.slice A (catP ps).length c) ∧ Kit.Own 5 w' A (catP ps).length c (bvs (catP ps)) ∧ Kp nob w w' ∧ ∀ k, ab A = some k → w.heap.size ≤ k := by
 have HM := Lib.hid hm; have HL := Lib.hid hl; clear hm hl
 have HPC : Hid (∀ k, k < m → ∃ (p : Pc) (bb oo : Nat), B = some ⟨bb, oo, none⟩ ∧ bb < w.heap.size ∧ w.cell? ⟨bb, oo + k, none⟩ = some (.slice p.A p.n p.c) ∧ p.l.length = p.n ∧ Row w p.A (bvs p.l) ∧ (p.A = none → p.c = 0) ∧ catP (ps.take (k + 1)) = catP (ps.take k) ++ p.l ∧ (catP (ps.take k)).length + p.n ≤ (catP ps).length) := Lib.hid (by
  intro k hlt
  obtain ⟨p, hpk⟩ : ∃ p, p = ps[k]'(by rw [HM.out]; exact hlt) := ⟨_, rfl⟩
  obtain ⟨bb, oo, rfl, hbb, hcell⟩ := hr.at_ (i := k) (by simp [HM.out]; exact hlt)
  have hmem : p ∈ ps := by rw [hpk]; exact List.getElem_mem _
  obtain ⟨q1, q2, _, q4, q5⟩ := hp p hmem
  have hsn := catP_snoc ps k (by rw [HM.out]; exact hlt)
  have hle := catP_le ps (k + 1)
  rw [hsn, List.length_append, ← hpk, q1] at hle
  exact ⟨p, bb, oo, rfl, hbb, by rw [hcell, hpk]; simp [Pc.v], q1, q2, hnil p hmem, by rw [hsn, hpk], hle⟩)
 clear hr hp hnil
 go_enter Tryz.func163, Tryz.ntmps163
 go_wp2
 go_loop [3, 11] (fun vr vi => ∃ (k : Nat), k ≤ m ∧ vi = .int .i64 k ∧ vr = .int .i64 ((catP (ps.take k)).length : Int))
  (fun _ vi => m - (intOf vi).toNat)
 case atStart => exact ⟨0, Nat.zero_le _, rfl, by simp [catP]⟩
 case round =>
  obtain ⟨k, hk, rfl, rfl⟩ := hrel
  by_cases hlt : k < m
  · obtain ⟨p, bb, oo, rfl, hbb, hce, q1, q2, q3, q4, q5⟩ := HPC.out k hlt
    have hS : (catP (ps.take (k + 1))).length = (catP (ps.take k)).length + p.n := by rw [q4, List.length_append, q1]
    have hle := HL.out
    obtain ⟨I, hI⟩ : ∃ I, I = (catP (ps.take k)).length := ⟨_, rfl⟩
    obtain ⟨J, hJ⟩ : ∃ J, J = (catP (ps.take (k + 1))).length := ⟨_, rfl⟩
    rw [← hI, ← hJ] at hS
    rw [← hI] at q5
    rw [← hI]
    have HJ := Lib.hid hJ
    have e1 : IntKind.i64.wrap ((I : Int) + (p.n : Int)) = (J : Int) := by rw [IntKind.wrap_i64]; omega
    have d1 : decide ((J : Int) < 0) = false := by simp
    clear hS hle hI hJ q1 q2 q3 q4
    go_wp2
    go_round
    case rel => exact ⟨k + 1, by omega, by go_num, by rw [HJ.out]⟩
    case measure => simp [intOf]; omega
  · obtain rfl : m = k := by omega
    have hI : (catP (ps.take m)).length = (catP ps).length := by rw [List.take_of_length_le (by rw [HM.out]; omega)]
    rw [hI]
    have hle := HL.out
    obtain ⟨L, hL⟩ : ∃ L, L = (catP ps).length := ⟨_, rfl⟩
    rw [← hL] at hle ⊢
    have HLL := Lib.hid hL
    clear hI hL
    go_wp2_with fail
    refine (grow_any L w hle).mono ?_
    rintro e w1 ⟨A, c, rfl, hO, k1, hA⟩
    have H1 := Lib.hid (And.intro hO (And.intro k1 hA))
    clear hO k1 hA
    go_wp2
    go_loopw [6, 27] (fun vr vi wr => ∃ (k : Nat) (A : Option Addr) (n c : Nat), k ≤ m ∧ vi = .int .i64 k ∧ n = (catP (ps.take k)).length ∧ vr = .slice A n c ∧ Kit.Own 5 wr A n c (bvs (catP (ps.take k))) ∧ Kp nob w wr ∧ ∀ k, ab A = some k → w.heap.size ≤ k)
     (fun _ vi _ => m - (intOf vi).toNat)
    case atStart => exact ⟨0, A, 0, c, Nat.zero_le _, rfl, rfl, rfl, H1.out.1, H1.out.2⟩
    case round =>
     obtain ⟨k, A, n, c, hk, rfl, hn, rfl, hO, hK, hA⟩ := hrel
     by_cases hlt : k < m
     · obtain ⟨p, bb, oo, rfl, hbb, hce, q1, q2, q3, q4, q5⟩ := HPC.out k hlt
       have hce' : wr.cell? ⟨bb, oo + k, none⟩ = some (.slice p.A p.n p.c) := by rw [hK.cell (p := ⟨bb, oo + k, none⟩) hbb (fun e => e), hce]
       have HR := Lib.hid (show Row wr p.A (bvs p.l) from q2.keep0 hK)
       have HPL := Lib.hid (show (bvs p.l).length = p.n by rw [bvs_length, q1])
       have hle := HL.out
       have hb1 : (n + p.n) * 1 ≤ 140737488355328 := by omega
       have hb2 : n + p.n ≤ 140737488355328 := by omega
       have H4 := Lib.hid (show n + p.n = (catP (ps.take (k + 1))).length by rw [q4, List.length_append, q1, hn])
       have H5 := Lib.hid (show bvs (catP (ps.take k)) ++ bvs p.l = bvs (catP (ps.take (k + 1))) by rw [q4, bvs_append])
       have H3 := Lib.hid q3
       have HO := Lib.hid hO; have HK := Lib.hid hK; have HA := Lib.hid hA; have HN := Lib.hid hn
       obtain ⟨i, hi, hz0, hz1, hz2⟩ := info_parts (show (Tryz.prog.info? 5).map (fun i => (i.zero, i.size, i.bytes)) = some (some (.int .u8 0), 1, 1) by kernel_rfl)
       have HI := Lib.hid hi; have HZ := Lib.hid (And.intro hz0 (And.intro hz1 hz2))
       clear hce q1 q2 q3 q4 q5 hle hO hK hA hn hi hz0 hz1 hz2 H1
       go_wp2_with (first
        | (refine wpList_appR _ rfl (.tmp 31) (.tmp 32) 58 rfl 5 i (.int .u8 0) 1 u8s_under HI.out HZ.out.1 HZ.out.2.1 HZ.out.2.2 rfl A n c _ rfl HO.out p.A p.n p.c (bvs p.l) rfl H3.out HPL.out HR.out (bvs_one _) hb1 hb2 ?_
           intro A' c' w' hown hg hab
           rw [H5.out] at hown
           have HO' := Lib.hid hown
           have HK' := Lib.hid (HK.out.since (Kp.of_grown (F := rowF A) hg (fun k e => e)) (fun k e => HA.out k e))
           have HA' : Hid (∀ k, ab A' = some k → w.heap.size ≤ k) := Lib.hid (fun k e => by
            rcases hab with h | h
            · exact HA.out k (by rw [← h]; exact e)
            · rw [h] at e; cases e; exact HK.out.size)
           clear hown hg hab)
        | fail)
       go_roundw
       case rel => exact ⟨k + 1, A', n + p.n, c', by omega, by go_num, H4.out, rfl, HO'.out, HK'.out, HA'.out⟩
       case measure => simp [intOf]; omega
     · obtain rfl : m = k := by omega
       have hI : ps.take m = ps := List.take_of_length_le (by rw [HM.out]; omega)
       rw [hI] at hn hO
       have HO := Lib.hid hO; have HN := Lib.hid hn
       clear hI hn hO
       go_wp2
       go_ret
       exact ⟨A, c, by rw [HN.out]; rfl, by rw [← HN.out]; exact HO.out, hK, hA⟩
end Cat
namespace Cat
open Go Go.RowKit Kit
theorem mul64_one (n : Nat) (w : World) (hn : n ≤ 2147483648) :
    Calls Tryz.prog 169 #[.int .u64 1, .int .u64 n] w fun e w' => e = .returned (.tuple #[.int .u64 0, .int .u64 n]) ∧ w = w' := by
 have e0 : bits .and .u64 (1 : Int) 4294967295 = 1 := by have := bits_and_u64_nat 1 4294967295 (by omega) (by omega); simpa using this
 have e1 : bits .and .u64 (n : Int) 4294967295 = (n : Int) := by
  have := bits_and_u64_nat n 4294967295 (by omega) (by omega)
  rw [show (4294967295 : Nat) = 2 ^ 32 - 1 from rfl, Nat.and_two_pow_sub_one_eq_mod, Nat.mod_eq_of_lt (by omega)] at this
  simpa using this
 have e2 : (n : Int) / 4294967296 = 0 := by omega
 have e3 : (n : Int) % 18446744073709551616 = (n : Int) := by omega
 have e4 : bits .and .u64 (0 : Int) 4294967295 = 0 := by have := bits_and_u64_nat 0 4294967295 (by omega) (by omega); simpa using this
 go_enter Tryz.func169, Tryz.ntmps169
 go_wp2
 go_ret2
 exact ⟨rfl, rfl⟩
theorem mul_one (n : Nat) (w : World) (hn : n ≤ 2147483648) :
    Calls Tryz.prog 166 #[.int .u64 1, .int .u64 n] w fun e w' => e = .returned (.tuple #[.int .u64 0, .int .u64 n]) ∧ w = w' := by
 go_enter Tryz.func166, Tryz.ntmps166
 go_wp2_with (go_at_call 169; refine (mul64_one n _ hn).mono ?_; rintro e w' ⟨rfl, rfl⟩)
 go_ret2
 exact ⟨rfl, rfl⟩
theorem slice_hm (g n c : Nat) (hn : n ≤ c) (w : World) : (Instr.slice 58 (.slice (some ⟨g, 0, none⟩) n c) none (some (.int .i64 n)) (some (.int .i64 n))).run Tryz.prog w = .ok (.slice (some ⟨g, 0, none⟩) n n) w := by
 have he : Tryz.prog.elem 58 = 5 := by kernel_rfl
 rw [run_slice_hm w 58 (some ⟨g, 0, none⟩) n c (by kernel_rfl) .i64 .i64 n n (by omega) (by omega) (by omega), he, u8_size]
 simp [Result.andThen, sliced, cutA, Addr.add]
theorem rep_splice (x : UInt8) (k r : Nat) (rest : List Value) (hr : r ≤ rest.length) : splice (bvs (List.replicate k x) ++ rest) k (bvs (List.replicate r x)) = bvs (List.replicate (k + r) x) ++ rest.drop r := by
 have hk : (bvs (List.replicate k x)).length = k := by simp
 unfold splice
 rw [List.take_left' hk, bvs_length, List.length_replicate, ← List.replicate_append_replicate, bvs_append, List.append_assoc, List.drop_append, List.drop_of_length_le (by rw [hk]; omega), hk, Nat.add_sub_cancel_left, List.nil_append]
structure Sofar (w : World) (n : Nat) (x : UInt8) (k : Nat) (w2 : World) : Prop where
 b : ∃ rest, Blk w2 w.heap.size 5 (bvs (List.replicate k x) ++ rest) ∧ n ≤ k + rest.length
 kp : Kp nob w w2
theorem Sofar.more {w w2 w3 : World} {n k r : Nat} {x : UInt8} (rest : List Value) (hl : n ≤ k + rest.length) (h : Kp nob w w2) (hr : k + r ≤ n) (hB : Blk w3 w.heap.size 5 (splice (bvs (List.replicate k x) ++ rest) k (bvs (List.replicate r x)))) (k3 : Kp (oneB w.heap.size) w2 w3) : Sofar w n x (k + r) w3 :=
 ⟨⟨rest.drop r, by rw [← rep_splice x k r rest (by omega)]; exact hB, by rw [List.length_drop]; omega⟩, h.since k3 (fun i e => by cases e; exact Nat.le_refl _)⟩
theorem Sofar.row {w w2 : World} {n k : Nat} {x : UInt8} (h : Sofar w n x k w2) : Row w2 (some ⟨w.heap.size, 0, none⟩) (bvs (List.replicate k x)) := by
 obtain ⟨rest, h1, h2⟩ := h.b
 have := h1.row.take k
 rwa [List.take_left' (by simp)] at this
theorem rep_small (A : Option Addr) (c n : Nat) (x : UInt8) (w0 : World) (hr : Row w0 A [bv x]) (hc : 1 ≤ c) (h0 : 0 < n) (hn : n ≤ 2147483648) (hb : n ≤ 8192) :
    Calls Tryz.prog 164 #[.slice A 1 c, .int .i64 n] w0 fun e w' => ∃ g, e = .returned (.slice (some ⟨g, 0, none⟩) n n) ∧ Row w' (some ⟨g, 0, none⟩) (bvs (List.replicate n x)) ∧ Kp nob w0 w' ∧ w0.heap.size ≤ g := by
 have z0 : ¬ ((n : Int) = 0) := by omega
 have z1 : ¬ ((n : Int) < 0) := by omega
 have z2 : (n : Int) % 18446744073709551616 = (n : Int) := by omega
 have z3 : ¬ ((9223372036854775807 : Int) < (n : Int)) := by omega
 have z4 : wrap64 (n : Int) = (n : Int) := by simp only [wrap64]; omega
 have z5 : ¬ ((8192 : Int) < (n : Int)) := by omega
 go_enter Tryz.func164, Tryz.ntmps164
 obtain ⟨cs, hrunM, hle, hmax⟩ := Lib.run_makeNoZero (P := Tryz.prog) w0 #[3] 58 5 u8s_under n (by omega)
 have hcall : (callFunc 167 #[.int .i64 (n : Int)]).run Tryz.prog w0 = .ok (.value (.slice (some ⟨w0.heap.size, 0, none⟩) n cs.size)) ((w0.alloc (.cells cs 5)).drewN 2) := by
  rw [run_callFunc_extern Tryz.func167 (by kernel_rfl) (by kernel_rfl) (by kernel_rfl) (e := Extern.BytealgMakeNoZero.makeNoZero #[3] #[58]) (by kernel_rfl), hrunM]
  rfl
 have hsl := slice_hm w0.heap.size n cs.size hle
 have HB : Hid (Sofar w0 n x 1 ((w0.alloc (.cells cs 5)).drewN 2) → True) := Lib.hid (fun _ => trivial)
 have hcs : cs.toList.length = cs.size := by simp
 have HK0 := Lib.hid (((Kp.refl nob w0).alloc (.cells cs 5)).drewN 2)
 have HB0 : Hid (Blk ((w0.alloc (.cells cs 5)).drewN 2) w0.heap.size 5 (bvs (List.replicate 0 x) ++ cs.toList)) := Lib.hid (show Blk (w0.alloc (.cells cs 5)) w0.heap.size 5 (bvs (List.replicate 0 x) ++ cs.toList) from Blk.new' rfl (by simp [bvs]))
 have HL0 : Hid (n ≤ 0 + cs.toList.length) := Lib.hid (by omega)
 have HFIT : Hid (0 + (bvs (List.replicate 1 x)).length ≤ (bvs (List.replicate 0 x) ++ cs.toList).length) := Lib.hid (by simp; omega)
 have HMIN : Hid ((bvs (List.replicate 1 x)).length = Nat.min 1 n) := Lib.hid (by show _ = min 1 n; rw [Nat.min_eq_left h0]; simp)
 have HR0 : Hid (Row ((w0.alloc (.cells cs 5)).drewN 2) A (bvs (List.replicate 1 x))) := Lib.hid (hr.keep0 HK0.out)
 clear hrunM hle hmax hcs hr HB
 have hzz := And.intro z0 (And.intro z1 (And.intro z3 z5))
 go_wp2_with (first
  | (go_at_call 166; refine (mul_one n _ hn).mono ?_; rintro e w' ⟨rfl, rfl⟩)
  | (refine wpList_copy_blk rfl (.tmp 58) (.tmp 59) 58 58 rfl 5 u8s_under (by kernel_rfl) w0.heap.size 0 _ _ _ _ _ _ rfl rfl _ 5 HB0.out (bvs (List.replicate 1 x)) HMIN.out (fun _ => rfl) HR0.out HFIT.out (bvs_one _) ?_
     intro w2 hB2 k2 z2'
     have HS := Lib.hid (Sofar.more (n := n) (k := 0) (r := 1) _ HL0.out HK0.out (by omega) hB2 k2)
     clear hB2 k2 z2'))
 go_loopw [10, 11] (fun i z wr => ∃ k : Nat, 1 ≤ k ∧ k ≤ n ∧ i = .int .i64 k ∧ Hid (Sofar w0 n x k wr)) (fun i _ _ => n - (intOf i).toNat)
 case atStart => exact ⟨1, Nat.le_refl _, h0, by simp, Lib.hid (by simpa using HS.out)⟩
 case round =>
  obtain ⟨k, hk1, hk, rfl, HK⟩ := hrel
  by_cases hlt : k < n
  · obtain ⟨_, hq⟩ : ∃ q : Nat, k = min k n := ⟨0, by omega⟩
    obtain ⟨r, hr⟩ : ∃ r, r = min k (n - k) := ⟨_, rfl⟩
    obtain ⟨rest, hB, hL⟩ := HK.out.b
    have hqn : k ≤ n := by omega
    have hs1 := slice_from (some ⟨w0.heap.size, 0, none⟩) n n k hk
    have hs2 := slice_to (some ⟨w0.heap.size, 0, none⟩) n n k hqn
    have HMIN2 : Hid ((bvs (List.replicate r x)).length = Nat.min k (n - k)) := Lib.hid (by show _ = min k (n - k); simpa using hr)
    have HROW : Hid (Row wr.drew (some ⟨w0.heap.size, 0, none⟩) (bvs (List.replicate r x))) := Lib.hid (by
     have := HK.out.row.take r
     rw [bvs, ← List.map_take, List.take_replicate, Nat.min_eq_left (by omega)] at this
     exact this.keep0 (Kp.refl nob wr).drew)
    have HBD : Hid (Blk wr.drew w0.heap.size 5 (bvs (List.replicate k x) ++ rest)) := Lib.hid hB
    have HFIT2 : Hid (k + (bvs (List.replicate r x)).length ≤ (bvs (List.replicate k x) ++ rest).length) := Lib.hid (by simp; omega)
    have HAD : Hid (cutA (some ⟨w0.heap.size, 0, none⟩) n k = some ⟨w0.heap.size, k, none⟩) := Lib.hid (by
     unfold cutA
     rw [if_neg (by omega)]
     simp [Addr.add]; omega)
    rw [HAD.out] at hs1
    have HLL := Lib.hid hL
    have HRK : Hid (k + r ≤ n ∧ 1 ≤ r) := Lib.hid (by omega)
    have hkr : (bvs (List.replicate r x)).length = r := by simp
    have HKR := Lib.hid hkr
    have HQ := Lib.hid (And.intro hq hr)
    have HW : Hid (IntKind.i64.wrap ((k : Int) + (r : Int)) = (k : Int) + (r : Int)) := Lib.hid (by rw [IntKind.wrap_i64]; omega)
    have hkn : (k : Int) < (n : Int) := by omega
    clear hB hL hq hr hkr hqn
    go_wp2_with fail
    refine reg_begin (fun _ => True) (by kernel_rfl) trivial (fun _ => ?_)
    refine reg_tk (v := .int .i64 k) 0 67 rfl rfl (by kernel_rfl) (by rfl) trivial (fun w hw => by go_simp) ?_; simp only [Act.put, zp1, zp2, zp3]
    refine reg_tk (v := .slice (some ⟨w0.heap.size, 0, none⟩) n n) 1 68 rfl rfl (by kernel_rfl) (by rfl) trivial (fun w hw => by go_simp) ?_; simp only [Act.put, zp1, zp2, zp3]
    refine reg_tk (v := .int .i64 k) 2 69 rfl rfl (by kernel_rfl) (by rfl) trivial (fun w hw => by go_simp) ?_; simp only [Act.put, zp1, zp2, zp3]
    refine reg_tk (v := .slice (some ⟨w0.heap.size, k, none⟩) (n - k) (n - k)) 3 70 rfl rfl (by kernel_rfl) (by rfl) trivial (fun w hw => by go_simp) ?_; simp only [Act.put, zp1, zp2, zp3]
    refine reg_tk (v := .slice (some ⟨w0.heap.size, 0, none⟩) n n) 4 71 rfl rfl (by kernel_rfl) (by rfl) trivial (fun w hw => by go_simp) ?_; simp only [Act.put, zp1, zp2, zp3]
    refine reg_tk (v := .int .i64 k) 5 72 rfl rfl (by kernel_rfl) (by rfl) trivial (fun w hw => by go_simp) ?_; simp only [Act.put, zp1, zp2, zp3]
    refine reg_tk (v := .slice (some ⟨w0.heap.size, 0, none⟩) k n) 6 73 rfl rfl (by kernel_rfl) (by rfl) trivial (fun w hw => by go_simp) ?_; simp only [Act.put, zp1, zp2, zp3]
    refine reg_copy 7 (some 74) (.tmp 70) (.tmp 73) 58 58 rfl rfl rfl (by kernel_rfl) rfl 5 u8s_under (by kernel_rfl) w0.heap.size k _ _ _ _ _ _ rfl rfl _ 5 HBD.out (bvs (List.replicate r x)) HMIN2.out (fun _ => rfl) HROW.out HFIT2.out (bvs_one _) ?_
    intro w2 hB2 k2 z2'
    rw [HKR.out]
    refine ⟨trivial, fun _ => ?_⟩
    simp only [Act.put, zp1, zp2, zp3]
    refine reg_tk (v := .int .i64 ((k : Int) + (r : Int))) 8 75 rfl rfl (by kernel_rfl) (by rfl) trivial (fun w hw => by go_simp; exact HW.out) ?_; simp only [Act.put, zp1, zp2, zp3]
    refine reg_tk (v := .int .i64 ((k : Int) + (r : Int))) 9 10 rfl rfl (by kernel_rfl) (by rfl) trivial (fun w hw => by go_simp) ?_; simp only [Act.put, zp1, zp2, zp3]
    refine reg_end (by kernel_rfl) ?_
    have HS2 := Lib.hid (Sofar.more (n := n) (k := k) (r := r) _ HLL.out HK.out.kp.drew HRK.out.1 hB2 k2)
    clear hB2 k2 z2'
    have hm1 : n - ((k : Int) + (r : Int)).toNat < n - (k : Int).toNat := by have := HRK.out; omega
    refine ⟨?_, by simpa [intOf] using hm1⟩
    repeat apply Exists.intro
    refine ⟨⟨k + r, by omega, HRK.out.1, by go_num, HS2⟩, rfl⟩
  · obtain rfl : n = k := by omega
    go_wp2
    go_ret
    exact ⟨_, rfl, HK.out.row, HK.out.kp, Nat.le_refl _⟩
theorem rep_big (A : Option Addr) (c n : Nat) (x : UInt8) (w0 : World) (hr : Row w0 A [bv x]) (hc : 1 ≤ c) (h0 : 0 < n) (hn : n ≤ 2147483648) (hb : 8192 < n) :
    Calls Tryz.prog 164 #[.slice A 1 c, .int .i64 n] w0 fun e w' => ∃ g, e = .returned (.slice (some ⟨g, 0, none⟩) n n) ∧ Row w' (some ⟨g, 0, none⟩) (bvs (List.replicate n x)) ∧ Kp nob w0 w' ∧ w0.heap.size ≤ g := by
 have z0 : ¬ ((n : Int) = 0) := by omega
 have z1 : ¬ ((n : Int) < 0) := by omega
 have z2 : (n : Int) % 18446744073709551616 = (n : Int) := by omega
 have z3 : ¬ ((9223372036854775807 : Int) < (n : Int)) := by omega
 have z4 : wrap64 (n : Int) = (n : Int) := by simp only [wrap64]; omega
 have z5 : (8192 : Int) < (n : Int) := by omega
 go_enter Tryz.func164, Tryz.ntmps164
 obtain ⟨cs, hrunM, hle, hmax⟩ := Lib.run_makeNoZero (P := Tryz.prog) w0 #[3] 58 5 u8s_under n (by omega)
 have hcall : (callFunc 167 #[.int .i64 (n : Int)]).run Tryz.prog w0 = .ok (.value (.slice (some ⟨w0.heap.size, 0, none⟩) n cs.size)) ((w0.alloc (.cells cs 5)).drewN 2) := by
  rw [run_callFunc_extern Tryz.func167 (by kernel_rfl) (by kernel_rfl) (by kernel_rfl) (e := Extern.BytealgMakeNoZero.makeNoZero #[3] #[58]) (by kernel_rfl), hrunM]
  rfl
 have hsl := slice_hm w0.heap.size n cs.size hle
 have HB : Hid (Sofar w0 n x 1 ((w0.alloc (.cells cs 5)).drewN 2) → True) := Lib.hid (fun _ => trivial)
 have hcs : cs.toList.length = cs.size := by simp
 have HK0 := Lib.hid (((Kp.refl nob w0).alloc (.cells cs 5)).drewN 2)
 have HB0 : Hid (Blk ((w0.alloc (.cells cs 5)).drewN 2) w0.heap.size 5 (bvs (List.replicate 0 x) ++ cs.toList)) := Lib.hid (show Blk (w0.alloc (.cells cs 5)) w0.heap.size 5 (bvs (List.replicate 0 x) ++ cs.toList) from Blk.new' rfl (by simp [bvs]))
 have HL0 : Hid (n ≤ 0 + cs.toList.length) := Lib.hid (by omega)
 have HFIT : Hid (0 + (bvs (List.replicate 1 x)).length ≤ (bvs (List.replicate 0 x) ++ cs.toList).length) := Lib.hid (by simp; omega)
 have HMIN : Hid ((bvs (List.replicate 1 x)).length = Nat.min 1 n) := Lib.hid (by show _ = min 1 n; rw [Nat.min_eq_left h0]; simp)
 have HR0 : Hid (Row ((w0.alloc (.cells cs 5)).drewN 2) A (bvs (List.replicate 1 x))) := Lib.hid (hr.keep0 HK0.out)
 clear hrunM hle hmax hcs hr HB
 have hzz := And.intro z0 (And.intro z1 (And.intro z3 z5))
 go_wp2_with (first
  | (go_at_call 166; refine (mul_one n _ hn).mono ?_; rintro e w' ⟨rfl, rfl⟩)
  | (refine wpList_copy_blk rfl (.tmp 58) (.tmp 59) 58 58 rfl 5 u8s_under (by kernel_rfl) w0.heap.size 0 _ _ _ _ _ _ rfl rfl _ 5 HB0.out (bvs (List.replicate 1 x)) HMIN.out (fun _ => rfl) HR0.out HFIT.out (bvs_one _) ?_
     intro w2 hB2 k2 z2'
     have HS := Lib.hid (Sofar.more (n := n) (k := 0) (r := 1) _ HL0.out HK0.out (by omega) hB2 k2)
     clear hB2 k2 z2'))
 go_loopw [10, 11] (fun i z wr => ∃ k : Nat, 1 ≤ k ∧ k ≤ n ∧ i = .int .i64 k ∧ Hid (Sofar w0 n x k wr)) (fun i _ _ => n - (intOf i).toNat)
 case atStart => exact ⟨1, Nat.le_refl _, h0, by simp, Lib.hid (by simpa using HS.out)⟩
 case round =>
  obtain ⟨k, hk1, hk, rfl, HK⟩ := hrel
  by_cases hlt : k < n
  · obtain ⟨q, hq⟩ : ∃ q, q = min k 8192 := ⟨_, rfl⟩
    have hmn : (if (8192 : Int) < (k : Int) then (8192 : Int) else (k : Int)) = (q : Int) := by split <;> omega
    obtain ⟨r, hr⟩ : ∃ r, r = min q (n - k) := ⟨_, rfl⟩
    obtain ⟨rest, hB, hL⟩ := HK.out.b
    have hqn : q ≤ n := by omega
    have hs1 := slice_from (some ⟨w0.heap.size, 0, none⟩) n n k hk
    have hs2 := slice_to (some ⟨w0.heap.size, 0, none⟩) n n q hqn
    have HMIN2 : Hid ((bvs (List.replicate r x)).length = Nat.min q (n - k)) := Lib.hid (by show _ = min q (n - k); simpa using hr)
    have HROW : Hid (Row wr.drew (some ⟨w0.heap.size, 0, none⟩) (bvs (List.replicate r x))) := Lib.hid (by
     have := HK.out.row.take r
     rw [bvs, ← List.map_take, List.take_replicate, Nat.min_eq_left (by omega)] at this
     exact this.keep0 (Kp.refl nob wr).drew)
    have HBD : Hid (Blk wr.drew w0.heap.size 5 (bvs (List.replicate k x) ++ rest)) := Lib.hid hB
    have HFIT2 : Hid (k + (bvs (List.replicate r x)).length ≤ (bvs (List.replicate k x) ++ rest).length) := Lib.hid (by simp; omega)
    have HAD : Hid (cutA (some ⟨w0.heap.size, 0, none⟩) n k = some ⟨w0.heap.size, k, none⟩) := Lib.hid (by
     unfold cutA
     rw [if_neg (by omega)]
     simp [Addr.add]; omega)
    rw [HAD.out] at hs1
    have HLL := Lib.hid hL
    have HRK : Hid (k + r ≤ n ∧ 1 ≤ r) := Lib.hid (by omega)
    have hkr : (bvs (List.replicate r x)).length = r := by simp
    have HKR := Lib.hid hkr
    have HQ := Lib.hid (And.intro hq hr)
    have HW : Hid (IntKind.i64.wrap ((k : Int) + (r : Int)) = (k : Int) + (r : Int)) := Lib.hid (by rw [IntKind.wrap_i64]; omega)
    have hkn : (k : Int) < (n : Int) := by omega
    clear hB hL hq hr hkr hqn
    go_wp2_with fail
    refine reg_begin (fun _ => True) (by kernel_rfl) trivial (fun _ => ?_)
    refine reg_tk (v := .int .i64 k) 0 67 rfl rfl (by kernel_rfl) (by rfl) trivial (fun w hw => by go_simp) ?_; simp only [Act.put, zp1, zp2, zp3]
    refine reg_tk (v := .slice (some ⟨w0.heap.size, 0, none⟩) n n) 1 68 rfl rfl (by kernel_rfl) (by rfl) trivial (fun w hw => by go_simp) ?_; simp only [Act.put, zp1, zp2, zp3]
    refine reg_tk (v := .int .i64 k) 2 69 rfl rfl (by kernel_rfl) (by rfl) trivial (fun w hw => by go_simp) ?_; simp only [Act.put, zp1, zp2, zp3]
    refine reg_tk (v := .slice (some ⟨w0.heap.size, k, none⟩) (n - k) (n - k)) 3 70 rfl rfl (by kernel_rfl) (by rfl) trivial (fun w hw => by go_simp) ?_; simp only [Act.put, zp1, zp2, zp3]
    refine reg_tk (v := .slice (some ⟨w0.heap.size, 0, none⟩) n n) 4 71 rfl rfl (by kernel_rfl) (by rfl) trivial (fun w hw => by go_simp) ?_; simp only [Act.put, zp1, zp2, zp3]
    refine reg_tk (v := .int .i64 q) 5 72 rfl rfl (by kernel_rfl) (by rfl) trivial (fun w hw => by go_simp) ?_; simp only [Act.put, zp1, zp2, zp3]
    refine reg_tk (v := .slice (some ⟨w0.heap.size, 0, none⟩) q n) 6 73 rfl rfl (by kernel_rfl) (by rfl) trivial (fun w hw => by go_simp) ?_; simp only [Act.put, zp1, zp2, zp3]
    refine reg_copy 7 (some 74) (.tmp 70) (.tmp 73) 58 58 rfl rfl rfl (by kernel_rfl) rfl 5 u8s_under (by kernel_rfl) w0.heap.size k _ _ _ _ _ _ rfl rfl _ 5 HBD.out (bvs (List.replicate r x)) HMIN2.out (fun _ => rfl) HROW.out HFIT2.out (bvs_one _) ?_
    intro w2 hB2 k2 z2'
    rw [HKR.out]
    refine ⟨trivial, fun _ => ?_⟩
    simp only [Act.put, zp1, zp2, zp3]
    refine reg_tk (v := .int .i64 ((k : Int) + (r : Int))) 8 75 rfl rfl (by kernel_rfl) (by rfl) trivial (fun w hw => by go_simp; exact HW.out) ?_; simp only [Act.put, zp1, zp2, zp3]
    refine reg_tk (v := .int .i64 ((k : Int) + (r : Int))) 9 10 rfl rfl (by kernel_rfl) (by rfl) trivial (fun w hw => by go_simp) ?_; simp only [Act.put, zp1, zp2, zp3]
    refine reg_end (by kernel_rfl) ?_
    have HS2 := Lib.hid (Sofar.more (n := n) (k := k) (r := r) _ HLL.out HK.out.kp.drew HRK.out.1 hB2 k2)
    clear hB2 k2 z2'
    have hm1 : n - ((k : Int) + (r : Int)).toNat < n - (k : Int).toNat := by have := HRK.out; omega
    refine ⟨?_, by simpa [intOf] using hm1⟩
    repeat apply Exists.intro
    refine ⟨⟨k + r, by omega, HRK.out.1, by go_num, HS2⟩, rfl⟩
  · obtain rfl : n = k := by omega
    go_wp2
    go_ret
    exact ⟨_, rfl, HK.out.row, HK.out.kp, Nat.le_refl _⟩
theorem rep_any (A : Option Addr) (c n : Nat) (x : UInt8) (w : World) (hr : Row w A [bv x]) (hc : 1 ≤ c) (h0 : 0 < n) (hn : n ≤ 2147483648) :
    Calls Tryz.prog 164 #[.slice A 1 c, .int .i64 n] w fun e w' => ∃ g, e = .returned (.slice (some ⟨g, 0, none⟩) n n) ∧ Row w' (some ⟨g, 0, none⟩) (bvs (List.replicate n x)) ∧ Kp nob w w' ∧ w.heap.size ≤ g := by
 by_cases hb : n ≤ 8192
 · exact rep_small A c n x w hr hc h0 hn hb
 · exact rep_big A c n x w hr hc h0 hn (by omega)
end Cat
namespace Ideal
open Go Go.RowKit Kit
theorem num8_nat (n : Nat) (h : n < 18446744073709551616) : num8 (n : Int) = le 8 n := by
 unfold num8; rw [show ((n : Int) % 18446744073709551616).toNat = n by omega]
structure Bw (w0 : World) (t : Thing) (l : List UInt8) (A : Option Addr) (w : World) : Prop where
 i : IsW w (w0.heap.size + 1) A l
 t : Blk w w0.heap.size 242 (tc t)
 k : Kp nob w0 w
 f : ∀ j, WF (w0.heap.size + 1) A j → w0.heap.size + 1 ≤ j
theorem Bw.keep {w0 w w2 : World} {t : Thing} {l : List UInt8} {A : Option Addr} (h : Bw w0 t l A w) (k : Kp nob w w2) : Bw w0 t l A w2 :=
 ⟨h.i.keep k (fun _ _ e => e), h.t.keep k (fun e => e), h.k.trans k (fun _ e => e.elim), h.f⟩
theorem Bw.step {w0 w w2 : World} {t : Thing} {l l2 : List UInt8} {A : Option Addr} (h : Bw w0 t l A w) (hp : WPost w (w0.heap.size + 1) A l2 w2) : ∃ A2, Bw w0 t l2 A2 w2 := by
 obtain ⟨A2, h1, h2, h3⟩ := hp
 have hs := h.k.size
 have hb := h.t.lt
 have hf : ∀ j, WF (w0.heap.size + 1) A2 j → w0.heap.size + 1 ≤ j := by
  rintro j (rfl | e)
  · exact Nat.le_refl _
  · rcases h3 with h3 | ⟨q, h3, hq⟩
    · exact h.f j (.inr (by rw [← h3]; exact e))
    · rw [h3] at e; cases e
      have := h.i.lt
      omega
 exact ⟨A2, h1, h.t.keep h2 (fun e => by have := h.f _ e; omega), h.k.since h2 (fun i e => by have := h.f i e; omega), hf⟩
theorem wByte1 (b : Nat) (A : Option Addr) (l : List UInt8) (x : UInt8) (w : World) (t : TypeId) (H : Nat) (hH : w.heap.size = H) (h : IsW w b A l) (hl : l.length + 1 ≤ 1099511627776) :
    Calls Tryz.prog 114 #[.pointer (some ⟨b, 0, none⟩), .slice (some ⟨H, 0, none⟩) 1 1] (w.alloc (.cells #[bv x] t)) fun e w' => e = .returned (.tuple #[]) ∧ WPost w b A (l ++ [x]) w' := by
 subst hH
 refine (wByte b A l (some ⟨w.heap.size, 0, none⟩) 1 1 [x] _ (h.alloc _) (fun e => by cases e) rfl (row_one _ _ _) (by omega)).mono ?_
 rintro e w' ⟨rfl, hp⟩
 exact ⟨rfl, hp.later⟩
theorem bytes_any (t : Thing) (n k : Nat) (w0 : World) (hn : n < 4611686018427387904) (hk : 9 < k) (hk2 : k ≤ 1048592) :
    Calls Tryz.prog 162 #[.agg (tc t).toArray, .int .i64 n, .int .i64 k] w0 fun e w' => ∃ A c, e = .returned (.slice A k c) ∧ Kit.Own 5 w' A k c (bvs (tok t.kind n k)) ∧ Kp nob w0 w' ∧ Fresh w0.heap.size A ∧ (A = none → c = 0) := by
 have HB0 : Hid (Bw w0 t [] none ((w0.alloc (.cells (tc t).toArray 242)).alloc (.cells #[.slice none 0 0] 137))) := Lib.hid ⟨by
     have := isW_new (w0.alloc (.cells (tc t).toArray 242))
     simpa using this, (Blk.new w0 242 (tc t)).alloc _, ((Kp.refl nob w0).alloc _).alloc _, by rintro j (rfl | e); exact Nat.le_refl _; cases e⟩
 have HN := Lib.hid (num8_nat n (by omega))
 have HKN := Lib.hid (And.intro hk hk2)
 go_enter Tryz.func162, Tryz.ntmps162
 clear hk hk2 hn
 go_wp2_with fail
 refine (wNum1 (w0.heap.size + 1) none [] n _ _ _ (by simp) HB0.out.i (by simp)).mono ?_
 rintro e w1 ⟨rfl, hp⟩
 obtain ⟨A1, h1⟩ := HB0.out.step hp
 rw [HN.out, List.nil_append] at h1
 have HB1 := Lib.hid h1
 have hkind : w1.cell? ⟨w0.heap.size, 0, none⟩ = some (.int .u8 (t.kind.toNat : Int)) := by rw [h1.t.cell]; rfl
 obtain ⟨w1h, hw1h⟩ : ∃ H, H = w1.heap.size := ⟨_, rfl⟩
 have HH1 := Lib.hid hw1h
 clear h1 hp hw1h
 go_wp2_with fail
 refine (wByte1 (w0.heap.size + 1) A1 (le 8 n) t.kind _ _ _ rfl HB1.out.i (by simp)).mono ?_
 rintro e w2 ⟨rfl, hp⟩
 obtain ⟨A2, h2⟩ := HB1.out.step hp
 obtain ⟨L, hL⟩ : ∃ L, L = le 8 n ++ [t.kind] := ⟨_, rfl⟩
 rw [← hL] at h2
 have hL9 : L.length = 9 := by rw [hL]; simp
 have HB2 := Lib.hid h2
 have HL := Lib.hid hL
 have HL9 := Lib.hid hL9
 clear h2 hp hkind hL hL9
 go_wp2_with fail
 refine (wBytes (w0.heap.size + 1) A2 L _ HB2.out.i (by rw [HL9.out]; omega)).mono ?_
 rintro e w3 ⟨A3, c3, rfl, _, k3, _, _⟩
 rw [HL9.out]
 have HB3 := Lib.hid (HB2.out.keep k3)
 clear k3
 have hsub : IntKind.i64.wrap ((k : Int) - 9) = ((k - 9 : Nat) : Int) := by have := HKN.out; rw [IntKind.wrap_i64]; omega
 obtain ⟨m, hm⟩ : ∃ m, m = k - 9 := ⟨_, rfl⟩
 rw [← hm] at hsub
 have HM := Lib.hid hm
 clear hm
 go_wp2_with fail
 refine (Cat.rep_any (some ⟨w3.heap.size, 0, none⟩) 1 m 0xee _ (row_new w3 [bv 0xee] _) (Nat.le_refl _) (by have := HKN.out; have := HM.out; omega) (by have := HKN.out; have := HM.out; omega)).mono ?_
 rintro e w4 ⟨g, rfl, hrow, k4, _⟩
 have HB4 := Lib.hid ((HB3.out.keep ((Kp.refl nob w3).alloc (.cells #[bv 0xee] 5))).keep k4)
 have HR4 := Lib.hid hrow
 clear k4 hrow
 go_wp2_with fail
 refine (wByte (w0.heap.size + 1) A2 L (some ⟨g, 0, none⟩) m m (List.replicate m 0xee) _ HB4.out.i (fun e => by cases e) (by simp) HR4.out (by have := HKN.out; have := HM.out; rw [HL9.out]; omega)).mono ?_
 rintro e w5 ⟨rfl, hp⟩
 obtain ⟨A5, h5⟩ := HB4.out.step hp
 have hT : L ++ List.replicate m 0xee = tok t.kind n k := by rw [HL.out, HM.out]; rfl
 rw [hT] at h5
 have HB5 := Lib.hid h5
 have HTL := Lib.hid (show (tok t.kind n k).length = k from tok_length _ _ _ (by have := HKN.out; omega))
 clear h5 hp hT hsub
 go_wp2_with fail
 refine (wBytes (w0.heap.size + 1) A5 (tok t.kind n k) _ HB5.out.i (by have := HKN.out; rw [HTL.out]; omega)).mono ?_
 rintro e w6 ⟨A6, c6, rfl, ho6, k6, hf6, hn6⟩
 rw [HTL.out] at ho6 ⊢
 have H6 := Lib.hid (And.intro ho6 (And.intro k6 (And.intro hf6 hn6)))
 clear ho6 k6 hf6 hn6
 go_wp2
 go_ret
 exact ⟨A6, c6, rfl, H6.out.1, HB5.out.k.trans H6.out.2.1 (fun _ e => e.elim), fun j e => Nat.le_trans HB5.out.k.size (H6.out.2.2.1 j e), H6.out.2.2.2⟩
theorem sealed_any (t : Thing) (n : Nat) (w0 : World) (hn : n < 4611686018427387904) (hd : t.d.length ≤ 1048576) :
    Calls Tryz.prog 159 #[.agg (tc t).toArray, .int .i64 n] w0 fun e w' => ∃ A c, e = .returned (.slice A (t.d.length + 16) c) ∧ Kit.Own 5 w' A (t.d.length + 16) c (bvs (tok t.kind n (t.d.length + 16))) ∧ Kp nob w0 w' ∧ Fresh w0.heap.size A ∧ (A = none → c = 0) := by
 have HB := Lib.hid (Blk.new w0 242 (tc t))
 have hx : (w0.alloc (.cells (tc t).toArray 242)).cell? ⟨w0.heap.size, 4, none⟩ = some (.string (str t.d)) := by rw [HB.out.cell]; rfl
 obtain ⟨D, hD⟩ : ∃ D, D = t.d.length := ⟨_, rfl⟩
 have hsz : (str t.d).size = D := by rw [str_size, hD]
 have hadd : IntKind.i64.wrap ((D : Int) + 16) = ((D + 16 : Nat) : Int) := by rw [IntKind.wrap_i64]; omega
 have hK := bytes_any t n (D + 16) (w0.alloc (.cells (tc t).toArray 242)) hn (by omega) (by omega)
 rw [← hD]
 have HK := Lib.hid hK
 clear hK hD
 go_enter Tryz.func159, Tryz.ntmps159
 go_wp2_with (first | (refine wpList_load_blk rfl 242 (.tmp 2) rfl _ _ _ HB.out rfl _ cthing_under rfl (by kernel_rfl) ?_) | fail)
 refine HK.out.mono ?_
 rintro e w1 ⟨A, c, rfl, ho, k, hf, hn⟩
 have H1 := Lib.hid (And.intro ho (And.intro k (And.intro hf hn)))
 clear ho k hf hn
 go_wp2
 go_ret
 exact ⟨A, c, rfl, H1.out.1, ((Kp.refl nob w0).alloc _).trans H1.out.2.1 (fun _ e => e.elim), fun j e => Nat.le_trans (by simp) (H1.out.2.2.1 j e), H1.out.2.2.2⟩
open Sha (Pc PcsOk catP catP_snoc catP_le)
theorem joined_any (B : Option Addr) (m d : Nat) (ps : List Pc) (F : Nat → Prop) (w : World) (hp : Args w F B m ps) (hl : (catP ps).length ≤ 1099511627776) :
    Calls Tryz.prog 158 #[.slice B m d] w fun e w' => e = .returned (.string (str (catP ps))) ∧ Kp nob w w' := by
 go_enter Tryz.func158, Tryz.ntmps158
 go_wp2_with fail
 refine (Cat.concat_any B m d ps _ hp.len hp.row (hp.pcs.mono (fun _ e => e.elim)) hp.nil hp.max hl).mono ?_
 rintro e w1 ⟨A, c, rfl, ho, k, hf⟩
 have hc := conv_row w1 A _ c (catP ps) rfl ho.row
 have HK := Lib.hid k
 clear ho hf k
 go_wp2
 go_ret
 exact ⟨rfl, HK.out⟩
theorem size_any (B : Option Addr) (m d : Nat) (ps : List Pc) (F : Nat → Prop) (w : World) (hp : Args w F B m ps) (hl : (catP ps).length ≤ 1099511627776) :
    Calls Tryz.prog 160 #[.slice B m d] w fun e w' => e = .returned (.int .i64 (catP ps).length) ∧ w = w' := by
 have HM := Lib.hid hp.len; have HL := Lib.hid hl
 have hmm := hp.max
 have HPC : Hid (∀ k, k < m → ∃ (p : Pc) (bb oo : Nat), B = some ⟨bb, oo, none⟩ ∧ w.cell? ⟨bb, oo + k, none⟩ = some (.slice p.A p.n p.c) ∧ (catP (ps.take (k + 1))).length = (catP (ps.take k)).length + p.n ∧ (catP (ps.take (k + 1))).length ≤ (catP ps).length) := Lib.hid (by
  intro k hlt
  obtain ⟨p, hpk⟩ : ∃ p, p = ps[k]'(by rw [HM.out]; exact hlt) := ⟨_, rfl⟩
  obtain ⟨bb, oo, rfl, hbb, hcell⟩ := hp.row.at_ (i := k) (by simp [HM.out]; exact hlt)
  have hmem : p ∈ ps := by rw [hpk]; exact List.getElem_mem _
  obtain ⟨q1, q2, _, q4, q5⟩ := hp.pcs p hmem
  have hsn := catP_snoc ps k (by rw [HM.out]; exact hlt)
  exact ⟨p, bb, oo, rfl, by rw [hcell, hpk]; simp [Pc.v], by rw [hsn, List.length_append, ← hpk, q1], catP_le ps (k + 1)⟩)
 clear hp hl
 go_enter Tryz.func160, Tryz.ntmps160
 go_wp2
 go_loop [3, 8] (fun vr vi => ∃ (k : Nat), k ≤ m ∧ vi = .int .i64 k ∧ vr = .int .i64 ((catP (ps.take k)).length : Int))
  (fun _ vi => m - (intOf vi).toNat)
 case atStart => exact ⟨0, Nat.zero_le _, rfl, by simp [catP]⟩
 case round =>
  obtain ⟨k, hk, rfl, rfl⟩ := hrel
  by_cases hlt : k < m
  · obtain ⟨p, bb, oo, rfl, hce, hS, hle⟩ := HPC.out k hlt
    obtain ⟨I, hI⟩ : ∃ I, I = (catP (ps.take k)).length := ⟨_, rfl⟩
    obtain ⟨J, hJ⟩ : ∃ J, J = (catP (ps.take (k + 1))).length := ⟨_, rfl⟩
    rw [← hI, ← hJ] at hS
    rw [← hJ] at hle
    rw [← hI]
    have HJ := Lib.hid hJ
    have hl := HL.out
    have e1 : IntKind.i64.wrap ((I : Int) + (p.n : Int)) = (J : Int) := by rw [IntKind.wrap_i64]; omega
    clear hS hle hI hJ hl
    go_wp2
    go_round
    case rel => exact ⟨k + 1, by omega, by go_num, by rw [HJ.out]⟩
    case measure => simp [intOf]; omega
  · obtain rfl : m = k := by omega
    have hI : (catP (ps.take m)).length = (catP ps).length := by rw [List.take_of_length_le (by rw [HM.out]; omega)]
    rw [hI]
    obtain ⟨L, hL⟩ : ∃ L, L = (catP ps).length := ⟨_, rfl⟩
    rw [← hL]
    have HLL := Lib.hid hL
    clear hI hL
    go_wp2
    go_ret
    exact ⟨by rw [← HLL.out]; rfl, rfl⟩
theorem arr32_under : Tryz.prog.underlying 47 = some (.array 32 5) := by kernel_rfl
def z32 : List UInt8 := List.replicate 32 0
def zc : List Value := bvs z32
theorem zc_run (w : World) : (zeroValue 47).run Tryz.prog w = .ok (.agg zc.toArray) w := by kernel_rfl
theorem zc_eq : zc = bvs z32 := rfl
theorem zc_length : zc.length = 32 := by simp [zc, z32]
attribute [irreducible] zc
theorem digest_any (p bn bs : Nat) (cs : List Thing) (t : Thing) (w0 : World) (hw : Cx w0 p bn bs cs (fun _ => True)) (hl : cs.length ≤ 100000) (hk : t.kind ≠ 83) :
    Calls Tryz.prog 157 #[.pointer (some ⟨p, 0, none⟩), .agg (tc t).toArray] w0 fun e w' => e = .returned (.agg (bvs (tok t.kind (num (mk cs t) t) 32)).toArray) ∧ Cx w' p bn bs (mk cs t) (fun _ => True) ∧ Kp (fun i => i = bn) w0 w' := by
 have HKD := Lib.hid hk
 have HNE : Hid (w0.heap.size ≠ bn ∧ w0.heap.size + 1 ≠ bn) := Lib.hid (by have := hw.lt bn (.inr (.inl rfl)); omega)
 have HW := Lib.hid hw
 clear hk hw
 have hz := zc_run
 go_enter Tryz.func157, Tryz.ntmps157
 go_wp2
 generalize hw1 : (w0.alloc (.cells (tc t).toArray 242)).alloc (.cells zc.toArray 47) = w1 at *
 have HT : Hid (Blk w1.drew w0.heap.size 242 (tc t)) := Lib.hid (by rw [← hw1]; exact ((Blk.new w0 _ _).alloc _).keep (Kp.refl nob _).drew (fun e => e))
 have HZ : Hid (Blk w1.drew (w0.heap.size + 1) 47 zc) := Lib.hid (by rw [← hw1]; exact (Blk.new' (by simp) rfl : Blk _ (w0.heap.size + 1) 47 zc).keep (Kp.refl nob _).drew (fun e => e))
 have HK1 : Hid (Kp nob w0 w1.drew) := Lib.hid (by rw [← hw1]; exact (((Kp.refl nob w0).alloc _).alloc _).drew)
 have HW1 := Lib.hid (HW.out.keep0 HK1.out)
 clear hw1
 have HS0 : Hid ((fun w2 : World => Blk w2 w0.heap.size 242 (tc t)) w1.drew) := Lib.hid HT.out
 refine reg_begin (fun w2 : World => Blk w2 w0.heap.size 242 (tc t)) (by kernel_rfl) HS0.out (fun _ => ?_)
 refine reg_load 0 (some 8) 242 (.tmp 3) rfl rfl rfl (by kernel_rfl) (by kernel_rfl) (by kernel_rfl) (by rfl) HS0.out (w0.heap.size) 0 rfl (tc t) _ (fun w hw => hw.range) cthing_under rfl (by kernel_rfl) ?_; simp only [Act.put, zp1, zp2, zp3]
 refine reg_tk (v := .pointer (some ⟨p, 0, none⟩)) 1 9 rfl rfl (by kernel_rfl) (by rfl) HS0.out (fun w hw => by go_simp) ?_; simp only [Act.put, zp1, zp2, zp3]
 refine reg_load 2 (some 10) 242 (.tmp 3) rfl rfl rfl (by kernel_rfl) (by kernel_rfl) (by kernel_rfl) (by rfl) HS0.out (w0.heap.size) 0 rfl (tc t) _ (fun w hw => hw.range) cthing_under rfl (by kernel_rfl) ?_; simp only [Act.put, zp1, zp2, zp3]
 refine reg_call 3 (some 11) rfl rfl (by kernel_rfl) (by rfl) _ _ (exec_func 161 _ _ [.pointer (some ⟨p, 0, none⟩), .agg (tc t).toArray] rfl (by kernel_rfl) rfl) ?_
 refine (number_any p bn bs cs t _ HW1.out hl (fun e => absurd e HKD.out)).mono ?_
 rintro e w2 ⟨rfl, hx2, k2⟩
 have HX2 := Lib.hid hx2
 have HK2 := Lib.hid k2
 have HS1 : Hid (Blk w2 w0.heap.size 242 (tc t)) := Lib.hid (HS0.out.keep k2 (fun e => HNE.out.1 e))
 clear hx2 k2
 refine ⟨_, rfl, HS1.out, fun _ => ?_⟩
 simp only [Act.put, zp1, zp2, zp3]
 obtain ⟨N, hN⟩ : ∃ N, N = num (mk cs t) t := ⟨_, rfl⟩
 rw [← hN]
 have HN := Lib.hid hN
 clear hN
 refine reg_call 4 (some 12) rfl rfl (by kernel_rfl) (by rfl) _ _ (exec_func 162 _ _ [.agg (tc t).toArray, .int .i64 N, .int .i64 32] rfl (by kernel_rfl) rfl) ?_
 refine (bytes_any t N 32 _ (by have := num_le (mk cs t) t; have := mk_length_le cs t; have := HN.out; omega) (by omega) (by omega)).mono ?_
 rintro e w3 ⟨A, c, rfl, ho, k3, hf, hn⟩
 have HX3 := Lib.hid (HX2.out.keep0 k3)
 have HK3 := Lib.hid (HK2.out.trans (k3.nob (fun i => i = bn)) (fun i e => .inl e))
 have HS2 : Hid (Blk w3 w0.heap.size 242 (tc t)) := Lib.hid (HS1.out.keep k3 (fun e => e))
 have HZ3 := Lib.hid ((HZ.out.keep HK2.out (fun e => HNE.out.2 e)).keep k3 (fun e => e))
 have HTL := Lib.hid (show (tok t.kind N 32).length = 32 from tok_length _ _ _ (by omega))
 have hrow := ho.row
 rcases hrow with h0 | ⟨b, o, rfl, _, hcell⟩
 · exact absurd (congrArg List.length h0) (by rw [bvs_length, HTL.out]; simp)
 have HRG : Hid (w3.rangeAt b o (bvs (tok t.kind N 32))) := Lib.hid hcell
 have hat : ∀ w, (Instr.arrayAt 47 (.slice (some ⟨b, o, none⟩) 32 c)).run Tryz.prog w = .ok (.pointer (some ⟨b, o, none⟩)) w := fun w => run_arrayAt w 47 5 32 _ 32 c arr32_under (Nat.le_refl _)
 clear ho k3 hf hn hcell
 refine ⟨_, rfl, HS2.out, fun _ => ?_⟩
 simp only [Act.put, zp1, zp2, zp3]
 refine reg_tk (v := .pointer (some ⟨b, o, none⟩)) 5 13 rfl rfl (by kernel_rfl) (by rfl) HS2.out (fun w hw => by go_simp) ?_; simp only [Act.put, zp1, zp2, zp3]
 refine reg_loadNow 6 (some 14) 47 (.tmp 13) rfl rfl rfl (by kernel_rfl) (by rfl) HS2.out b o rfl (bvs (tok t.kind N 32)) _ HRG.out arr32_under rfl (by rw [bvs_length, HTL.out]; kernel_rfl) ?_; simp only [Act.put, zp1, zp2, zp3]
 refine reg_store 7 none 47 (.tmp 4) (.tmp 14) rfl rfl rfl (by kernel_rfl) (by rfl) (w0.heap.size + 1) 47 _ (bvs (tok t.kind N 32)) HZ3.out rfl rfl (by rw [bvs_length, zc_length, HTL.out]) (by rw [bvs_length, HTL.out]; kernel_rfl) (bvs_one _) ?_
 intro w4 hB4 k4 z4
 refine ⟨HS2.out.keep k4 (fun e => by have e : w0.heap.size = w0.heap.size + 1 := e; omega), fun _ => ?_⟩
 simp only [Act.put, zp1, zp2, zp3]
 refine reg_end (by kernel_rfl) ?_
 have hsz : (Tryz.prog.info? 47).map (·.size) = some (bvs (tok t.kind N 32)).toArray.size := by rw [List.size_toArray, bvs_length, HTL.out]; kernel_rfl
 have HX4 := HX3.out.keep k4 (fun i hi e => by have e : i = w0.heap.size + 1 := e; have := HW.out.lt i hi; omega)
 have HK4 := ((HK1.out.nob (fun i => i = bn)).trans HK3.out (fun i e => .inl e)).trans k4 (fun i e => .inr (by have e : i = w0.heap.size + 1 := e; omega))
 have HE := Lib.hid (And.intro HX4 HK4)
 have hB := hB4
 clear hB4 k4 z4 HX4 HK4 hat
 go_wp2
 refine bodyPost_ret (results_cell_row rfl _ _ (w0.heap.size + 1) _ _ _ _ rfl hB arr32_under rfl hsz) rfl ⟨by rw [HN.out], HE.out.1.imp (fun u hu hk _ => ?_), HE.out.2⟩
 rcases (mem_mk _ _ _).1 hu with rfl | hu
 · exact absurd hk HKD.out
 · exact hu
end Ideal
end Go.Proofs.YtigdlnfgdjfdoaaGreat
