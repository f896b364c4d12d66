/- Lemmas: StrC ChaF Gf FieldS FieldT FieldW. -/
import Derived.Test.YtndkmfflpphoiaaZG04
import GoSem.Core.Next
import Derived.RegionTactic
set_option linter.unusedVariables false
set_option linter.unusedSimpArgs false
namespace Go.Proofs.Ytndkmfflpphoiaa.Kit
open Go Go.RowKit
theorem run_str_bytesK {P : Program} (w : World) (src dst e : TypeId) (s : ByteArray) (hs : P.underlying src = some .string) (hd : P.underlying dst = some (.slice e)) (he : P.underlying e = some (.int .u8)) (hm : s.size ≤ maxLen) :
    ∃ (c : Nat) (w' : World), (convert src dst (.string s)).run P w = .ok (.slice (some ⟨w.heap.size, 0, none⟩) s.size c) w' ∧ Row w' (some ⟨w.heap.size, 0, none⟩) (bvs (sl s)) ∧ Kp Kit.nob w w' ∧ w'.heap.size = w.heap.size + 1 ∧ s.size ≤ c ∧ c ≤ maxLen := by
  obtain ⟨c, w', h1, h2, h3, h4⟩ := run_str_bytes w src dst e s hs hd he
  have h5 := run_bytes_of_string w src dst e s hs hd he
  rw [h1] at h5
  injection h5 with h5 h6
  injection h5 with h7 h8 h9
  subst h9
  exact ⟨_, w', h1, h2, h3, h4, grownCap_ge _ _ _ _, grownCap_le_maxLen _ _ _ _ hm⟩
end Go.Proofs.Ytndkmfflpphoiaa.Kit
namespace Go.Proofs.Ytndkmfflpphoiaa.Disk
open Go Go.RowKit Kit
/-- What the steps yield: the frame's number as a text; with the bytes behind it; the noughts; as a text; all of it. -/
def FrG (n : Int) (z : Nat) (l : List UInt8) (i : Nat) (u : Value) (w : World) : Prop :=
  match i with
  | 1 => u = .string (str (num8 n))
  | 3 => u = .string (str (num8 n ++ l))
  | 9 => ∃ g, u = .slice (some ⟨g, 0, none⟩) z z ∧ Row w (some ⟨g, 0, none⟩) (bvs (List.replicate z 0))
  | 10 => u = .string (str (List.replicate z 0))
  | _ => u = .string (str ((num8 n ++ l) ++ List.replicate z 0))
theorem FrG.keep (n : Int) (z : Nat) (l : List UInt8) (i : Nat) (u : Value) (w w' : World) (h : FrG n z l i u w) (k : Kp nob w w') : FrG n z l i u w' := by
  unfold FrG at *
  split <;> simp only at h
  · exact h
  · exact h
  · obtain ⟨g, h1, h2⟩ := h; exact ⟨g, h1, h2.keep0 k⟩
  · exact h
  · exact h
theorem oper_is2 {ops : Array Oper} {i : Nat} {o o' : Oper} (h : ops[i]? = some o) (h' : ops[i]? = some o') : o = o' := Option.some.inj (h.symm.trans h')
theorem made_z (n : Nat) : madeCells #[(.int .u8 0 : Value)] n = (bvs (List.replicate n 0)).toArray := by
  apply Array.ext
  · simp [size_madeCells, bvs]
  · intro i h1 h2
    simp [madeCells, bvs, bv, Nat.mod_one]
theorem u8z_info : (Try.prog.info? 5).map (fun i => (i.zero, i.size, i.bytes)) = some (some (.int .u8 0), 1, 1) := by kernel_rfl
theorem make_z (n : Nat) (hn : n ≤ 1048576) (w : World) : (Instr.makeSlice 36 (.int .i64 (n : Int)) (.int .i64 (n : Int))).run Try.prog w = .ok (.slice (some ⟨w.heap.size, 0, none⟩) n n) (w.alloc (.cells (bvs (List.replicate n 0)).toArray 5)) := by
  rw [← made_z]
  exact run_make_row' 36 5 (.int .u8 0) 1 u8_under u8z_info rfl .i64 .i64 n (by omega) (by omega) w
theorem exec_make_z {act : Act} {o : Oper} (x : Operand) (n : Nat) (w : World) (ho : o.op = .makeSlice 36 x x) (hx : act.eval x = .int .i64 (n : Int)) (hn : n ≤ 1048576) :
    (execOp act.eval o).run Try.prog w = .ok (.value (.slice (some ⟨w.heap.size, 0, none⟩) n n)) (w.alloc (.cells (bvs (List.replicate n 0)).toArray 5)) := by
  have h := make_z n hn w
  unfold execOp
  simp [ho, hx, h, Result.andThen]
theorem exec_cat2 {a : Act} {o : Oper} {w : World} (x y : Operand) (ho : o.op = .binOp .add 9 x y 9) (s t : List UInt8) (hx : a.eval x = .string (str s)) (hy : a.eval y = .string (str t)) (hl : s.length + t.length ≤ 4194304) :
    (execOp a.eval o).run Try.prog w = .ok (.value (.string (str (s ++ t)))) w := by
  have hu := u8_string
  unfold execOp
  simp only [ho, hx, hy]
  go_simp
  rw [if_neg (by omega), str_append]
theorem exec_sb {a : Act} {o : Oper} {w w' : World} {v : Value} (x : Operand) (l : List UInt8) (ho : o.op = .convert 9 36 x) (hx : a.eval x = .string (str l)) (hr : (convert 9 36 (.string (str l))).run Try.prog w = .ok v w') :
    (execOp a.eval o).run Try.prog w = .ok (.value v) w' := by
  unfold execOp
  simp [ho, hx, hr, Result.andThen]
theorem exec_bs2 {a : Act} {o : Oper} {w : World} (x : Operand) (A : Option Addr) (n c : Nat) (l : List UInt8) (ho : o.op = .convert 36 9 x) (hx : a.eval x = .slice A n c) (hn : l.length = n) (hr : Row w A (bvs l)) :
    (execOp a.eval o).run Try.prog w = .ok (.value (.string (str l))) w := by
  have h := run_bytes_str w 36 9 5 u8_under (by kernel_rfl) u8_string A n c l hn hr
  unfold execOp
  simp [ho, hx, h, Result.andThen]
set_option maxHeartbeats 4000000 in
set_option maxRecDepth 100000 in
theorem framed_any (l : List UInt8) (w : World) (hl : l.length ≤ 1048576) :
    Calls Try.prog 14 #[.string (str l)] w fun e w' => ∃ A c, e = .returned (.slice A (frm l).length c) ∧ Row w' A (bvs (frm l)) ∧ Kp nob w w' ∧ (frm l).length ≤ c ∧ c ≤ maxLen ∧ (A = none → c = 0) ∧ ∀ i, ab A = some i → w.heap.size ≤ i := by
  have hsz := str_size l
  obtain ⟨n, hn⟩ : ∃ n : Nat, n = max l.length 40 + 8 := ⟨_, rfl⟩
  obtain ⟨z, hz⟩ : ∃ z : Nat, z = max l.length 40 - l.length := ⟨_, rfl⟩
  have e1 : IntKind.i64.wrap (max (l.length : Int) 40 + 8) = (n : Int) := by rw [IntWalk.i64_in _ (by omega)]; omega
  have e2 : IntKind.i64.wrap ((n : Int) - 8) = ((n - 8 : Nat) : Int) := by rw [IntWalk.i64_in _ (by omega)]; omega
  have e3 : IntKind.i64.wrap (((n - 8 : Nat) : Int) - (l.length : Int)) = (z : Int) := by rw [IntWalk.i64_in _ (by omega)]; omega
  have HF := Lib.hid (show frm l = (num8 (n : Int) ++ l) ++ List.replicate z 0 by rw [hn, hz, frm, List.append_assoc])
  have HB := Lib.hid (show n ≤ 1048584 ∧ z ≤ 40 ∧ l.length ≤ 1048576 ∧ 48 ≤ n by omega)
  have HN := Lib.hid hn
  clear hn hz
  go_enter Try.func14, Try.ntmps14
  go_wp2_with fail
  case' inr =>
    have en : (l.length : Int) + 8 = (n : Int) := by have := HN.out; omega
    rw [en]
  case' inl =>
    have en : (48 : Int) = (n : Int) := by have := HN.out; omega
    rw [en]
  all_goals
    clear en
    have HK0 := Lib.hid (show Kp nob w w.drew from (Kp.refl nob w).drew)
    refine reg_begin (fun w2 => Kp nob w w2) (by kernel_rfl) HK0.out (fun _ => ?_)
    refine reg_take (v := .int .i64 (n : Int)) 0 (some 8) rfl rfl (by kernel_rfl) (by kernel_rfl) (by kernel_rfl) (by rfl) HK0.out (fun w hw => by go_simp) ?_
    simp only [Act.put, List.setIfInBounds_toArray, List.set_cons_zero, List.set_cons_succ]
    refine reg_take (v := .string (str l)) 2 (some 10) rfl rfl (by kernel_rfl) (by kernel_rfl) (by kernel_rfl) (by rfl) HK0.out (fun w hw => by go_simp) ?_
    simp only [Act.put, List.setIfInBounds_toArray, List.set_cons_zero, List.set_cons_succ]
    refine reg_take (v := .int .i64 (n : Int)) 4 (some 12) rfl rfl (by kernel_rfl) (by kernel_rfl) (by kernel_rfl) (by rfl) HK0.out (fun w hw => by go_simp) ?_
    simp only [Act.put, List.setIfInBounds_toArray, List.set_cons_zero, List.set_cons_succ]
    refine reg_take (v := .int .i64 ((n - 8 : Nat) : Int)) 5 (some 13) rfl rfl (by kernel_rfl) (by kernel_rfl) (by kernel_rfl) (by rfl) HK0.out (fun w hw => by go_simp; first | rw [e2] | skip) ?_
    simp only [Act.put, List.setIfInBounds_toArray, List.set_cons_zero, List.set_cons_succ]
    refine reg_take (v := .string (str l)) 6 (some 14) rfl rfl (by kernel_rfl) (by kernel_rfl) (by kernel_rfl) (by rfl) HK0.out (fun w hw => by go_simp) ?_
    simp only [Act.put, List.setIfInBounds_toArray, List.set_cons_zero, List.set_cons_succ]
    refine reg_take (v := .int .i64 (l.length : Int)) 7 (some 15) rfl rfl (by kernel_rfl) (by kernel_rfl) (by kernel_rfl) (by rfl) HK0.out (fun w hw => by go_simp) ?_
    simp only [Act.put, List.setIfInBounds_toArray, List.set_cons_zero, List.set_cons_succ]
    refine reg_take (v := .int .i64 (z : Int)) 8 (some 16) rfl rfl (by kernel_rfl) (by kernel_rfl) (by kernel_rfl) (by rfl) HK0.out (fun w hw => by go_simp; first | rw [e3] | skip) ?_
    simp only [Act.put, List.setIfInBounds_toArray, List.set_cons_zero, List.set_cons_succ]
    refine reg_flow [1, 3, 9, 10, 11] [(1, some 9), (3, some 11), (9, some 17), (10, some 18), (11, some 19)] _ _ _ _ 2 14 (FrG (n : Int) z l) rfl rfl rfl (by kernel_rfl) (by kernel_rfl) (by kernel_rfl) (by kernel_rfl) rfl (by kernel_rfl) (fun w' k => HK0.out.trans k (fun _ e => e.elim)) (fun i u w1 w2 h k => h.keep _ _ _ _ _ _ _ k) ?st ?hK
    case st =>
      intro i o a w1 hi ho hk e0 ev
      simp only [List.mem_cons, List.not_mem_nil, or_false] at hi
      rcases hi with rfl | rfl | rfl | rfl | rfl
      · obtain rfl := oper_is2 ho rfl
        have x : a.eval (.tmp 8) = .int .i64 (n : Int) := e0 8 (by kernel_rfl)
        exact .call _ _ (exec_func 35 _ _ [.int .i64 (n : Int)] rfl (by kernel_rfl) (by show [a.eval (.tmp 8)] = _; rw [x])) ((fNum (n : Int) w1).mono fun e w2 h => ⟨_, h.1, rfl, h.2⟩)
      · obtain rfl := oper_is2 ho rfl
        have x : a.eval (.tmp 9) = .string (str (num8 (n : Int))) := ev 1 (by simp) (by kernel_rfl) 9 rfl
        have y : a.eval (.tmp 10) = .string (str l) := e0 10 (by kernel_rfl)
        exact .val _ (exec_cat2 (.tmp 9) (.tmp 10) rfl (num8 (n : Int)) l x y (by have := HB.out; simp; omega)) rfl (Kp.refl nob w1)
      · obtain rfl := oper_is2 ho rfl
        have x : a.eval (.tmp 16) = .int .i64 (z : Int) := e0 16 (by kernel_rfl)
        exact .val _ (exec_make_z (.tmp 16) z w1 rfl x (by have := HB.out; omega)) ⟨w1.heap.size, rfl, row_new w1 (bvs (List.replicate z 0)) _⟩ ((Kp.refl nob w1).alloc _)
      · obtain rfl := oper_is2 ho rfl
        obtain ⟨g, x, hr⟩ : ∃ g, a.eval (.tmp 17) = .slice (some ⟨g, 0, none⟩) z z ∧ Row w1 (some ⟨g, 0, none⟩) (bvs (List.replicate z 0)) := ev 9 (by simp) (by kernel_rfl) 17 rfl
        exact .val _ (exec_bs2 (.tmp 17) _ z z (List.replicate z 0) rfl x (by simp) hr) rfl (Kp.refl nob w1)
      · obtain rfl := oper_is2 ho rfl
        have x : a.eval (.tmp 11) = .string (str (num8 (n : Int) ++ l)) := ev 3 (by simp) (by kernel_rfl) 11 rfl
        have y : a.eval (.tmp 18) = .string (str (List.replicate z 0)) := ev 10 (by simp) (by kernel_rfl) 18 rfl
        exact .val _ (exec_cat2 (.tmp 11) (.tmp 18) rfl (num8 (n : Int) ++ l) (List.replicate z 0) x y (by have := HB.out; simp; omega)) rfl (Kp.refl nob w1)
    case hK =>
      intro vals w1 hv hk
      have v19 : vals 11 = .string (str ((num8 (n : Int) ++ l) ++ List.replicate z 0)) := hv 11 (by simp)
      rw [← HF.out] at v19
      obtain ⟨v1, hv1⟩ : ∃ v, v = vals 1 := ⟨_, rfl⟩
      obtain ⟨v3, hv3⟩ : ∃ v, v = vals 3 := ⟨_, rfl⟩
      obtain ⟨v9, hv9⟩ : ∃ v, v = vals 9 := ⟨_, rfl⟩
      obtain ⟨v10, hv10⟩ : ∃ v, v = vals 10 := ⟨_, rfl⟩
      simp only [putZ, v19, ← hv1, ← hv3, ← hv9, ← hv10]
      simp only [Act.put, List.setIfInBounds_toArray, List.set_cons_zero, List.set_cons_succ]
      have hk1 : Kp nob w w1 := HK0.out.trans hk (fun _ e => e.elim)
      obtain ⟨c, w2, hx, hr, k2, z2, hc1, hc2⟩ := run_str_bytesK w1 9 36 5 (str (frm l)) u8_string u8_under (by kernel_rfl) (by rw [str_size, frm_length]; have := HB.out; simp [maxLen]; omega)
      rw [sl_str] at hr
      rw [str_size] at hx hc1
      have hk2 : Kp nob w w2 := hk1.trans k2 (fun _ e => e.elim)
      refine reg_step 12 (some 20) rfl rfl (by kernel_rfl) (by rfl) (exec_sb (.tmp 19) (frm l) rfl rfl hx) hk2 (fun _ => ?_)
      simp only [Act.put, List.setIfInBounds_toArray, List.set_cons_zero, List.set_cons_succ]
      refine reg_take (v := .slice (some ⟨w1.heap.size, 0, none⟩) (frm l).length c) 13 (some 2) rfl rfl (by kernel_rfl) (by kernel_rfl) (by kernel_rfl) (by rfl) hk2 (fun w hw => by go_simp) ?_
      simp only [Act.put, List.setIfInBounds_toArray, List.set_cons_zero, List.set_cons_succ]
      refine reg_end (by kernel_rfl) ?_
      have HR := Lib.hid hr
      have HK2 := Lib.hid hk2
      have HC := Lib.hid (And.intro hc1 (And.intro hc2 hk1.size))
      clear hr hx hk2 k2 hc1 hc2 hk1
      go_wp2
      go_ret
      exact ⟨_, _, rfl, HR.out, HK2.out, HC.out.1, HC.out.2.1, fun e => (by cases e), fun i e => (by cases e; exact HC.out.2.2)⟩
end Go.Proofs.Ytndkmfflpphoiaa.Disk
namespace Go.Proofs.Ytndkmfflpphoiaa.Gf
theorem xor_lc (a b c : Nat) : a ^^^ (b ^^^ c) = b ^^^ (a ^^^ c) := by rw [← Nat.xor_assoc, Nat.xor_comm a, Nat.xor_assoc]
theorem xor_twice (a b : Nat) : a ^^^ (a ^^^ b) = b := by rw [← Nat.xor_assoc, Nat.xor_self, Nat.zero_xor]
/-- Exclusively additive. -/
def Add (f : Nat → Nat) : Prop := ∀ a b, f (a ^^^ b) = f a ^^^ f b
theorem Add.zero {f : Nat → Nat} (h : Add f) : f 0 = 0 := by
  have := h 0 0
  rwa [Nat.xor_self, Nat.xor_self] at this
theorem Add.comp {f g : Nat → Nat} (hf : Add f) (hg : Add g) : Add (fun a => f (g a)) := fun a b => by show f (g (a ^^^ b)) = f (g a) ^^^ f (g b); rw [hg, hf]
theorem Add.id : Add (fun a => a) := fun _ _ => rfl
theorem Add.xor {f g : Nat → Nat} (hf : Add f) (hg : Add g) : Add (fun a => f a ^^^ g a) := fun a b => by
  simp only [hf a b, hg a b]
  rw [Nat.xor_assoc, Nat.xor_assoc, ← Nat.xor_assoc (f b), ← Nat.xor_assoc (g a), Nat.xor_comm (f b)]
theorem Add.none : Add (fun _ => 0) := fun _ _ => by simp
theorem top_bit (a n : Nat) (h : a < 2 ^ (n + 1)) : a = (a % 2 ^ n) ^^^ (if a.testBit n then 2 ^ n else 0) := by
  apply Nat.eq_of_testBit_eq
  intro i
  rw [Nat.testBit_xor, Nat.testBit_mod_two_pow]
  by_cases hi : i < n
  · have : (if a.testBit n then 2 ^ n else 0).testBit i = false := by
      split
      · rw [Nat.testBit_two_pow]; simp; omega
      · simp
    simp [hi, this]
  · by_cases hn : i = n
    · subst hn
      cases hb : a.testBit i <;> simp
    · have h1 : a.testBit i = false := Nat.testBit_lt_two_pow (Nat.lt_of_lt_of_le h (Nat.pow_le_pow_right (by omega) (by omega)))
      have h2 : (if a.testBit n then 2 ^ n else 0).testBit i = false := by
        split
        · rw [Nat.testBit_two_pow]; simp; omega
        · simp
      simp [hi, h1, h2]
/-- WHAT IS ADDITIVE IS TOLD BY THE SINGLE BITS. -/
theorem ext {f g : Nat → Nat} (hf : Add f) (hg : Add g) (n : Nat) (h : ∀ i, i < n → f (2 ^ i) = g (2 ^ i)) : ∀ a, a < 2 ^ n → f a = g a := by
  induction n with
  | zero => intro a ha; obtain rfl : a = 0 := by simpa using ha
            rw [hf.zero, hg.zero]
  | succ n ih =>
    intro a ha
    rw [top_bit a n ha, hf, hg, ih (fun i hi => h i (by omega)) _ (Nat.mod_lt _ (Nat.two_pow_pos n))]
    congr 1
    split
    · exact h n (by omega)
    · rw [hf.zero, hg.zero]
theorem low_xor (a b : Nat) : (a ^^^ b) % 2 = (a % 2 + b % 2) % 2 := by
  have h := Nat.xor_mod_two_pow (a := a) (b := b) (n := 1)
  rw [Nat.pow_one] at h
  rw [h]
  rcases Nat.mod_two_eq_zero_or_one a with ha | ha <;> rcases Nat.mod_two_eq_zero_or_one b with hb | hb <;> rw [ha, hb] <;> rfl
theorem bit_xor (a b i : Nat) : (a ^^^ b) / 2 ^ i % 2 = (a / 2 ^ i % 2 + b / 2 ^ i % 2) % 2 := by
  have := Nat.shiftRight_xor_distrib (a := a) (b := b) (i := i)
  rw [Nat.shiftRight_eq_div_pow, Nat.shiftRight_eq_div_pow, Nat.shiftRight_eq_div_pow] at this
  rw [this, low_xor]
/-- c, if a bit says so. -/
theorem Add.bit (i c : Nat) : Add (fun x => if x / 2 ^ i % 2 = 1 then c else 0) := by
  intro a b
  show (if (a ^^^ b) / 2 ^ i % 2 = 1 then c else 0) = (if a / 2 ^ i % 2 = 1 then c else 0) ^^^ (if b / 2 ^ i % 2 = 1 then c else 0)
  rw [bit_xor]
  rcases Nat.mod_two_eq_zero_or_one (a / 2 ^ i) with ha | ha <;> rcases Nat.mod_two_eq_zero_or_one (b / 2 ^ i) with hb | hb <;> rw [ha, hb] <;> simp
theorem Add.times (i : Nat) : Add (fun x => x * 2 ^ i) := fun a b => by
  have := Nat.shiftLeft_xor_distrib (a := a) (b := b) (i := i)
  simpa [Nat.shiftLeft_eq] using this
variable (d p : Nat)
/-- The product with x: one step up; what goes over the top comes back as p. -/
def xt (a : Nat) : Nat := (2 * a) % 2 ^ d ^^^ (if a.testBit (d - 1) then p else 0)
theorem two_xor (a b : Nat) : 2 * (a ^^^ b) = 2 * a ^^^ 2 * b := by
  have := Nat.shiftLeft_xor_distrib (a := a) (b := b) (i := 1)
  simpa [Nat.shiftLeft_eq, Nat.mul_comm] using this
theorem mod_xor (a b : Nat) : (a ^^^ b) % 2 ^ d = a % 2 ^ d ^^^ b % 2 ^ d := Nat.xor_mod_two_pow
theorem xt_add : Add (xt d p) := by
  intro a b
  unfold xt
  rw [two_xor, mod_xor, Nat.testBit_xor]
  cases a.testBit (d - 1) <;> cases b.testBit (d - 1) <;> simp [xor_lc, Nat.xor_comm, xor_twice]
theorem xt_lt (hp : p < 2 ^ d) (a : Nat) : xt d p a < 2 ^ d := by
  unfold xt
  apply Nat.xor_lt_two_pow (Nat.mod_lt _ (Nat.two_pow_pos d))
  split
  · exact hp
  · exact Nat.two_pow_pos d
def xts : Nat → Nat → Nat
  | 0, a => a
  | n + 1, a => xt d p (xts n a)
theorem xts_zero (a : Nat) : xts d p 0 a = a := rfl
theorem xts_succ (n a : Nat) : xts d p (n + 1) a = xt d p (xts d p n a) := rfl
theorem xts_add (n : Nat) : Add (xts d p n) := by
  induction n with
  | zero => exact Add.id
  | succ n ih => exact (xt_add d p).comp ih
theorem xts_lt (hp : p < 2 ^ d) (n a : Nat) (ha : a < 2 ^ d) : xts d p n a < 2 ^ d := by
  cases n with
  | zero => exact ha
  | succ n => exact xt_lt d p hp _
theorem xts_xts (n m a : Nat) : xts d p n (xts d p m a) = xts d p (n + m) a := by
  induction n with
  | zero => rw [Nat.zero_add]; rfl
  | succ n ih => rw [xts_succ, ih, Nat.add_right_comm]; rfl
theorem xts_one (n : Nat) (h : n < d) : xts d p n 1 = 2 ^ n := by
  induction n with
  | zero => rfl
  | succ n ih =>
    rw [xts_succ, ih (by omega), xt, Nat.testBit_two_pow, if_neg (by simp; omega), Nat.xor_zero, ← Nat.pow_succ', Nat.mod_eq_of_lt (Nat.pow_lt_pow_right (by omega) h)]
/-- The product, by the lowest n bits of b. -/
def mulN (a b : Nat) : Nat → Nat
  | 0 => 0
  | n + 1 => mulN a b n ^^^ (if b.testBit n then xts d p n a else 0)
def mul (a b : Nat) : Nat := mulN d p a b d
theorem mulN_left (b n : Nat) : Add (fun a => mulN d p a b n) := by
  induction n with
  | zero => exact Add.none
  | succ n ih =>
    refine Add.xor (f := fun a => mulN d p a b n) (g := fun a => if b.testBit n then xts d p n a else 0) ih ?_
    cases b.testBit n
    · exact Add.none
    · simpa using xts_add d p n
theorem mulN_right (a n : Nat) : Add (fun b => mulN d p a b n) := by
  induction n with
  | zero => exact Add.none
  | succ n ih =>
    refine Add.xor (f := fun b => mulN d p a b n) (g := fun b => if b.testBit n then xts d p n a else 0) ih ?_
    intro b c
    simp only [Nat.testBit_xor]
    cases b.testBit n <;> cases c.testBit n <;> simp
theorem mul_left (b : Nat) : Add (fun a => mul d p a b) := mulN_left d p b d
theorem mul_right (a : Nat) : Add (fun b => mul d p a b) := mulN_right d p a d
theorem mul_xor (a b c : Nat) : mul d p a (b ^^^ c) = mul d p a b ^^^ mul d p a c := mul_right d p a b c
theorem xor_mul (a b c : Nat) : mul d p (a ^^^ b) c = mul d p a c ^^^ mul d p b c := mul_left d p c a b
theorem mulN_lt (hp : p < 2 ^ d) (a b n : Nat) (ha : a < 2 ^ d) : mulN d p a b n < 2 ^ d := by
  induction n with
  | zero => exact Nat.two_pow_pos d
  | succ n ih =>
    refine Nat.xor_lt_two_pow ih ?_
    split
    · exact xts_lt d p hp n a ha
    · exact Nat.two_pow_pos d
theorem mul_lt (hp : p < 2 ^ d) (a b : Nat) (ha : a < 2 ^ d) : mul d p a b < 2 ^ d := mulN_lt d p hp a b d ha
theorem mulN_bit (a j n : Nat) : mulN d p a (2 ^ j) n = if j < n then xts d p j a else 0 := by
  induction n with
  | zero => simp [mulN]
  | succ n ih =>
    rw [mulN, ih, Nat.testBit_two_pow]
    by_cases h : j < n
    · have : ¬ j = n := by omega
      simp [h, this, show j < n + 1 by omega]
    · by_cases h2 : j = n
      · subst h2; simp
      · simp [h, h2, show ¬ j < n + 1 by omega]
theorem mul_bit (a j : Nat) (h : j < d) : mul d p a (2 ^ j) = xts d p j a := by rw [mul, mulN_bit, if_pos h]
theorem mul_bits (i j : Nat) (hi : i < d) (hj : j < d) : mul d p (2 ^ i) (2 ^ j) = xts d p (j + i) 1 := by
  rw [mul_bit d p _ j hj, ← xts_one d p i hi, xts_xts]
/-- THE ORDER DOESN'T MATTER. -/
theorem mul_comm (a b : Nat) (ha : a < 2 ^ d) (hb : b < 2 ^ d) : mul d p a b = mul d p b a := by
  refine ext (f := fun a => mul d p a b) (g := fun a => mul d p b a) (mul_left d p b) (mul_right d p b) d (fun i hi => ?_) a ha
  refine ext (f := fun b => mul d p (2 ^ i) b) (g := fun b => mul d p b (2 ^ i)) (mul_right d p _) (mul_left d p _) d (fun j hj => ?_) b hb
  rw [mul_bits d p i j hi hj, mul_bits d p j i hj hi, Nat.add_comm]
theorem mul_xts (a n : Nat) (b : Nat) (hb : b < 2 ^ d) : mul d p (xts d p n a) b = xts d p n (mul d p a b) := by
  refine ext (f := fun b => mul d p (xts d p n a) b) (g := fun b => xts d p n (mul d p a b)) (mul_right d p _) ((xts_add d p n).comp (mul_right d p a)) d (fun j hj => ?_) b hb
  rw [mul_bit d p _ j hj, mul_bit d p _ j hj, xts_xts, xts_xts, Nat.add_comm]
/-- NOR HOW IT IS PUT TOGETHER. -/
theorem mul_assoc (a b c : Nat) (hp : p < 2 ^ d) (ha : a < 2 ^ d) (hb : b < 2 ^ d) (hc : c < 2 ^ d) : mul d p (mul d p a b) c = mul d p a (mul d p b c) := by
  refine ext (f := fun c => mul d p (mul d p a b) c) (g := fun c => mul d p a (mul d p b c)) (mul_right d p _) ((mul_right d p a).comp (mul_right d p b)) d (fun j hj => ?_) c hc
  rw [mul_bit d p _ j hj, mul_bit d p _ j hj, mul_comm d p a _ ha (xts_lt d p hp j b hb), mul_xts d p b j a ha, mul_comm d p b a hb ha]
theorem mul_one (a : Nat) (hd : 0 < d) : mul d p a 1 = a := mul_bit d p a 0 hd
theorem mul_zero (a : Nat) : mul d p a 0 = 0 := (mul_right d p a).zero
theorem zero_mul (a : Nat) : mul d p 0 a = 0 := (mul_left d p a).zero
theorem mul_two (a : Nat) (hd : 1 < d) : mul d p a 2 = xt d p a := mul_bit d p a 1 hd
/-- A square; squares over and over. -/
def sq (a : Nat) : Nat := mul d p a a
def sqs : Nat → Nat → Nat
  | 0, a => a
  | n + 1, a => sq d p (sqs n a)
theorem sq_lt (hp : p < 2 ^ d) (a : Nat) (ha : a < 2 ^ d) : sq d p a < 2 ^ d := mul_lt d p hp a a ha
theorem sqs_lt (hp : p < 2 ^ d) (n a : Nat) (ha : a < 2 ^ d) : sqs d p n a < 2 ^ d := by
  induction n with
  | zero => exact ha
  | succ n ih => exact sq_lt d p hp _ ih
theorem sq_xor (a b : Nat) (ha : a < 2 ^ d) (hb : b < 2 ^ d) : sq d p (a ^^^ b) = sq d p a ^^^ sq d p b := by
  unfold sq
  rw [mul_xor, xor_mul, xor_mul, mul_comm d p b a hb ha, Nat.xor_assoc, xor_twice]
theorem sq_mul (hp : p < 2 ^ d) (a b : Nat) (ha : a < 2 ^ d) (hb : b < 2 ^ d) : sq d p (mul d p a b) = mul d p (sq d p a) (sq d p b) := by
  unfold sq
  rw [mul_assoc d p a b _ hp ha hb (mul_lt d p hp a b ha), ← mul_assoc d p b a b hp hb ha hb, mul_comm d p b a hb ha, mul_assoc d p a b b hp ha hb hb, ← mul_assoc d p a a _ hp ha ha (mul_lt d p hp b b hb)]
theorem sqs_xor (hp : p < 2 ^ d) (n a b : Nat) (ha : a < 2 ^ d) (hb : b < 2 ^ d) : sqs d p n (a ^^^ b) = sqs d p n a ^^^ sqs d p n b := by
  induction n with
  | zero => rfl
  | succ n ih => rw [sqs, ih, sq_xor d p _ _ (sqs_lt d p hp n a ha) (sqs_lt d p hp n b hb)]; rfl
theorem sqs_mul (hp : p < 2 ^ d) (n a b : Nat) (ha : a < 2 ^ d) (hb : b < 2 ^ d) : sqs d p n (mul d p a b) = mul d p (sqs d p n a) (sqs d p n b) := by
  induction n with
  | zero => rfl
  | succ n ih => rw [sqs, ih, sq_mul d p hp _ _ (sqs_lt d p hp n a ha) (sqs_lt d p hp n b hb)]; rfl
/-- What is additive below 2^d alone. -/
theorem ext_lt {f g : Nat → Nat} (hf : ∀ a b, a < 2 ^ d → b < 2 ^ d → f (a ^^^ b) = f a ^^^ f b) (hg : ∀ a b, a < 2 ^ d → b < 2 ^ d → g (a ^^^ b) = g a ^^^ g b) (h : ∀ i, i < d → f (2 ^ i) = g (2 ^ i)) : ∀ n, n ≤ d → ∀ a, a < 2 ^ n → f a = g a := by
  have z : ∀ {f : Nat → Nat}, (∀ a b, a < 2 ^ d → b < 2 ^ d → f (a ^^^ b) = f a ^^^ f b) → f 0 = 0 := fun {f} hf => by
    have := hf 0 0 (Nat.two_pow_pos d) (Nat.two_pow_pos d)
    rwa [Nat.xor_self, Nat.xor_self] at this
  intro n
  induction n with
  | zero => intro _ a ha; obtain rfl : a = 0 := by simpa using ha
            rw [z hf, z hg]
  | succ n ih =>
    intro hn a ha
    have h1 : a % 2 ^ n < 2 ^ n := Nat.mod_lt _ (Nat.two_pow_pos n)
    have h2 : a % 2 ^ n < 2 ^ d := Nat.lt_of_lt_of_le h1 (Nat.pow_le_pow_right (by omega) (by omega))
    have h3 : (if a.testBit n then 2 ^ n else 0) < 2 ^ d := by
      split
      · exact Nat.pow_lt_pow_right (by omega) (by omega)
      · exact Nat.two_pow_pos d
    rw [top_bit a n ha, hf _ _ h2 h3, hg _ _ h2 h3, ih (by omega) _ h1]
    congr 1
    split
    · exact h n (by omega)
    · rw [z hf, z hg]
theorem sqs_one (n : Nat) (hd : 0 < d) : sqs d p n 1 = 1 := by
  induction n with
  | zero => rfl
  | succ n ih => rw [sqs, ih, sq, mul_one d p 1 hd]
/-- Where x comes back behind d squares, all do. -/
theorem sqs_all (hp : p < 2 ^ d) (hd : 1 < d) (hx : sqs d p d 2 = 2) (a : Nat) (ha : a < 2 ^ d) : sqs d p d a = a := by
  refine ext_lt d (f := fun a => sqs d p d a) (g := fun a => a) (fun a b ha hb => sqs_xor d p hp d a b ha hb) (fun _ _ _ _ => rfl) (fun i hi => ?_) d (Nat.le_refl d) a ha
  have h2 : 2 < 2 ^ d := by
    have : 2 ^ 2 ≤ 2 ^ d := Nat.pow_le_pow_right (by omega) hd
    omega
  induction i with
  | zero => exact sqs_one d p d (by omega)
  | succ i ih =>
    have hi2 : 2 ^ i < 2 ^ d := Nat.pow_lt_pow_right (by omega) (by omega)
    have e : 2 ^ (i + 1) = mul d p (2 ^ i) 2 := by
      rw [mul_two d p _ hd, ← xts_one d p (i + 1) hi, xts_succ, xts_one d p i (by omega)]
    rw [e]
    show sqs d p d (mul d p (2 ^ i) 2) = _
    rw [sqs_mul d p hp d _ _ hi2 h2, hx]
    congr 1
    exact ih (by omega)
/-- The product of a, a^2, a^4 .. a^(2^(n-1)): a to the power of 2^n - 1. -/
def run (a : Nat) : Nat → Nat
  | 0 => 1
  | n + 1 => mul d p (run a n) (sqs d p n a)
theorem one_lt (hd : 0 < d) : 1 < 2 ^ d := Nat.one_lt_two_pow (by omega)
theorem run_lt (hp : p < 2 ^ d) (hd : 0 < d) (a n : Nat) : run d p a n < 2 ^ d := by
  induction n with
  | zero => exact one_lt d hd
  | succ n ih => exact mul_lt d p hp _ _ ih
theorem one_mul (a : Nat) (hd : 0 < d) (ha : a < 2 ^ d) : mul d p 1 a = a := by rw [mul_comm d p 1 a (one_lt d hd) ha, mul_one d p a hd]
theorem run_mul (hp : p < 2 ^ d) (hd : 0 < d) (a n : Nat) (ha : a < 2 ^ d) : mul d p (run d p a n) a = sqs d p n a := by
  induction n with
  | zero => exact one_mul d p a hd ha
  | succ n ih =>
    rw [run, mul_assoc d p _ _ _ hp (run_lt d p hp hd a n) (sqs_lt d p hp n a ha) ha, mul_comm d p (sqs d p n a) a (sqs_lt d p hp n a ha) ha, ← mul_assoc d p _ _ _ hp (run_lt d p hp hd a n) ha (sqs_lt d p hp n a ha), ih]
    rfl
/-- The square of the product of the powers is that of the next ones. -/
theorem run_sq (hp : p < 2 ^ d) (hd : 0 < d) (a n : Nat) (ha : a < 2 ^ d) : mul d p a (sq d p (run d p a n)) = run d p a (n + 1) := by
  induction n with
  | zero => show mul d p a (mul d p 1 1) = mul d p 1 a
            rw [mul_one d p 1 hd, mul_one d p a hd, one_mul d p a hd ha]
  | succ n ih =>
    rw [run, sq_mul d p hp _ _ (run_lt d p hp hd a n) (sqs_lt d p hp n a ha), ← mul_assoc d p _ _ _ hp ha (sq_lt d p hp _ (run_lt d p hp hd a n)) (sq_lt d p hp _ (sqs_lt d p hp n a ha)), ih]
    rfl
/-- e = a^(2^d - 1) is its own square. -/
theorem idem (hp : p < 2 ^ d) (hd : 1 < d) (hx : sqs d p d 2 = 2) (a : Nat) (ha : a < 2 ^ d) : sq d p (run d p a d) = run d p a d := by
  obtain ⟨n, rfl⟩ : ∃ n, d = n + 1 := ⟨d - 1, by omega⟩
  have hl := run_lt (n + 1) p hp (by omega) a (n + 1)
  have hs := sq_lt (n + 1) p hp _ (run_lt (n + 1) p hp (by omega) a n)
  have h1 : run (n + 1) p a (n + 1) = mul (n + 1) p a (sq (n + 1) p (run (n + 1) p a n)) := (run_sq (n + 1) p hp (by omega) a n ha).symm
  have h2 : mul (n + 1) p (run (n + 1) p a (n + 1)) a = a := by rw [run_mul (n + 1) p hp (by omega) a _ ha, sqs_all (n + 1) p hp hd hx a ha]
  have h3 : mul (n + 1) p (run (n + 1) p a (n + 1)) (mul (n + 1) p a (sq (n + 1) p (run (n + 1) p a n))) = mul (n + 1) p a (sq (n + 1) p (run (n + 1) p a n)) := by
    rw [← mul_assoc (n + 1) p _ _ _ hp hl ha hs, h2]
  rw [← h1] at h3
  exact h3
/-- NO PRODUCT IS NONE BUT OF NONE, where x comes back behind d squares, and additive 'back' finds a (but for its lowest bit) out of a^2 + a. -/
theorem entire (hp : p < 2 ^ d) (hd : 1 < d) (hx : sqs d p d 2 = 2) (back : Nat → Nat) (hb : Add back) (hbk : ∀ i, i < d → back (sq d p (2 ^ i) ^^^ 2 ^ i) = 2 ^ i / 2 * 2) (a b : Nat) (ha : a < 2 ^ d) (hbl : b < 2 ^ d) (h : mul d p a b = 0) (ha0 : a ≠ 0) : b = 0 := by
  have hl := run_lt d p hp (by omega) a d
  have hid := idem d p hp hd hx a ha
  have hba : ∀ e, e < 2 ^ d → back (sq d p e ^^^ e) = e / 2 * 2 := by
    intro e he
    refine ext_lt d (f := fun e => back (sq d p e ^^^ e)) (g := fun e => e / 2 * 2) (fun u v hu hv => ?_) (fun u v _ _ => ?_) hbk d (Nat.le_refl d) e he
    · show back (sq d p (u ^^^ v) ^^^ (u ^^^ v)) = back (sq d p u ^^^ u) ^^^ back (sq d p v ^^^ v)
      rw [sq_xor d p u v hu hv, ← hb]
      congr 1
      rw [Nat.xor_assoc, Nat.xor_assoc, xor_lc (sq d p v)]
    · show (u ^^^ v) / 2 * 2 = u / 2 * 2 ^^^ v / 2 * 2
      apply Nat.eq_of_testBit_eq
      intro i
      have t : ∀ x : Nat, (x / 2 * 2).testBit i = (decide (0 < i) && x.testBit i) := fun x => by
        cases i with
        | zero => simp [Nat.testBit_zero]
        | succ i => rw [Nat.testBit_succ, Nat.mul_div_cancel _ (by omega), Nat.testBit_succ]; simp
      rw [t, Nat.testBit_xor, Nat.testBit_xor, t, t]
      cases decide (0 < i) <;> simp
  have h0 := hba _ hl
  rw [hid, Nat.xor_self, hb.zero] at h0
  have h2 : mul d p (run d p a d) a = a := by rw [run_mul d p hp (by omega) a _ ha, sqs_all d p hp hd hx a ha]
  have h01 : run d p a d = 0 ∨ run d p a d = 1 := by omega
  rcases h01 with h01 | h01
  · rw [h01, zero_mul] at h2; exact absurd h2.symm ha0
  · obtain ⟨n, hn⟩ : ∃ n, d = n + 1 := ⟨d - 1, by omega⟩
    have hs := sq_lt d p hp _ (run_lt d p hp (by omega) a n)
    have h3 := run_sq d p hp (by omega) a n ha
    rw [← hn, h01, mul_comm d p a _ ha hs] at h3
    have h4 := mul_assoc d p _ a b hp hs ha hbl
    rw [h3, h, mul_zero, one_mul d p b (by omega) hbl] at h4
    exact h4
end Go.Proofs.Ytndkmfflpphoiaa.Gf
namespace Go.Proofs.Ytndkmfflpphoiaa.Field
open Gf
/-- The document's product: by long multiplication, then by division. -/
def up (a b : Nat) : Nat → Nat
  | 0 => 0
  | i + 1 => if b / 2 ^ i % 2 = 1 then up a b i ^^^ (a * 2 ^ i) else up a b i
def down (x : Nat) : Nat → Nat
  | 0 => x
  | k + 1 => if down x k / 2 ^ (15 - k) % 2 = 1 then down x k ^^^ (283 * 2 ^ (7 - k)) else down x k
def long (a b : Nat) : Nat := down (up a b 8) 8
theorem up_left (b n : Nat) : Add (fun a => up a b n) := by
  induction n with
  | zero => exact Add.none
  | succ n ih =>
    intro x y
    have h1 := ih x y
    have h2 := Add.times n x y
    show up (x ^^^ y) b (n + 1) = up x b (n + 1) ^^^ up y b (n + 1)
    simp only at h1 h2
    rw [up, up, up]
    split
    · rw [h1, h2, Nat.xor_assoc, Nat.xor_assoc, xor_lc (up y b n)]
    · exact h1
theorem up_right (a n : Nat) : Add (fun b => up a b n) := by
  induction n with
  | zero => exact Add.none
  | succ n ih =>
    have e : ∀ b, up a b (n + 1) = up a b n ^^^ (if b / 2 ^ n % 2 = 1 then a * 2 ^ n else 0) := fun b => by
      rw [up]; split <;> simp
    have := Add.xor ih (Add.bit n (a * 2 ^ n))
    intro x y
    show up a (x ^^^ y) (n + 1) = up a x (n + 1) ^^^ up a y (n + 1)
    rw [e, e, e]
    exact this x y
theorem down_add (n : Nat) : Add (fun x => down x n) := by
  induction n with
  | zero => exact Add.id
  | succ n ih =>
    have e : ∀ x, down x (n + 1) = down x n ^^^ (if down x n / 2 ^ (15 - n) % 2 = 1 then 283 * 2 ^ (7 - n) else 0) := fun x => by
      rw [down]; split <;> simp
    have := Add.xor ih ((Add.bit (15 - n) (283 * 2 ^ (7 - n))).comp ih)
    intro x y
    show down (x ^^^ y) (n + 1) = down x (n + 1) ^^^ down y (n + 1)
    rw [e, e, e]
    exact this x y
set_option maxRecDepth 100000 in
theorem long_bits : (List.range 8).all (fun i => (List.range 8).all fun j => long (2 ^ i) (2 ^ j) == mul 8 27 (2 ^ i) (2 ^ j)) = true := by decide +kernel
theorem long_eq (a b : Nat) (ha : a < 256) (hb : b < 256) : long a b = mul 8 27 a b := by
  refine ext (f := fun a => long a b) (g := fun a => mul 8 27 a b) ((down_add 8).comp (up_left b 8)) (mul_left 8 27 b) 8 (fun i hi => ?_) a ha
  refine ext (f := fun b => long (2 ^ i) b) (g := fun b => mul 8 27 (2 ^ i) b) ((down_add 8).comp (up_right (2 ^ i) 8)) (mul_right 8 27 _) 8 (fun j hj => ?_) b hb
  exact beq_iff_eq.1 (List.all_eq_true.1 (List.all_eq_true.1 long_bits i (List.mem_range.2 hi)) j (List.mem_range.2 hj))
/-- The product of two bytes. -/
def tm (a b : UInt8) : UInt8 := UInt8.ofNat (mul 8 27 a.toNat b.toNat)
theorem tm_nat (a b : UInt8) : (tm a b).toNat = mul 8 27 a.toNat b.toNat := by
  have := mul_lt 8 27 (by decide) a.toNat b.toNat a.toNat_lt
  rw [tm, UInt8.toNat_ofNat']; omega
theorem tm_comm (a b : UInt8) : tm a b = tm b a := by
  apply UInt8.toNat_inj.1; rw [tm_nat, tm_nat]; exact mul_comm 8 27 _ _ a.toNat_lt b.toNat_lt
theorem tm_assoc (a b c : UInt8) : tm (tm a b) c = tm a (tm b c) := by
  apply UInt8.toNat_inj.1; rw [tm_nat, tm_nat, tm_nat, tm_nat]; exact mul_assoc 8 27 _ _ _ (by decide) a.toNat_lt b.toNat_lt c.toNat_lt
theorem tm_xor (a b c : UInt8) : tm a (b ^^^ c) = tm a b ^^^ tm a c := by
  apply UInt8.toNat_inj.1; rw [tm_nat, UInt8.toNat_xor, UInt8.toNat_xor, tm_nat, tm_nat]; exact mul_xor 8 27 _ _ _
theorem tm_one (a : UInt8) : tm a 1 = a := by
  apply UInt8.toNat_inj.1; rw [tm_nat]; exact mul_one 8 27 _ (by decide)
theorem one_tm (a : UInt8) : tm 1 a = a := by rw [tm_comm, tm_one]
theorem tm_zero (a : UInt8) : tm a 0 = 0 := by
  apply UInt8.toNat_inj.1; rw [tm_nat]; exact mul_zero 8 27 _
theorem zero_tm (a : UInt8) : tm 0 a = 0 := by rw [tm_comm, tm_zero]
theorem long_tm (a b : UInt8) : long a.toNat b.toNat = (tm a b).toNat := by rw [tm_nat, long_eq _ _ a.toNat_lt b.toNat_lt]
theorem twice_tm (a : UInt8) : (tm a 2).toNat = xt 8 27 a.toNat := by rw [tm_nat]; exact mul_two 8 27 _ (by decide)
/-- The inverse, as a table. -/
def invs : List Nat := [0, 1, 141, 246, 203, 82, 123, 209, 232, 79, 41, 192, 176, 225, 229, 199, 116, 180, 170, 75, 153, 43, 96, 95, 88, 63, 253, 204, 255, 64, 238, 178, 58, 110, 90, 241, 85, 77, 168, 201, 193, 10, 152, 21, 48, 68, 162, 194, 44, 69, 146, 108, 243, 57, 102, 66, 242, 53, 32, 111, 119, 187, 89, 25, 29, 254, 55, 103, 45, 49, 245, 105, 167, 100, 171, 19, 84, 37, 233, 9, 237, 92, 5, 202, 76, 36, 135, 191, 24, 62, 34, 240, 81, 236, 97, 23, 22, 94, 175, 211, 73, 166, 54, 67, 244, 71, 145, 223, 51, 147, 33, 59, 121, 183, 151, 133, 16, 181, 186, 60, 182, 112, 208, 6, 161, 250, 129, 130, 131, 126, 127, 128, 150, 115, 190, 86, 155, 158, 149, 217, 247, 2, 185, 164, 222, 106, 50, 109, 216, 138, 132, 114, 42, 20, 159, 136, 249, 220, 137, 154, 251, 124, 46, 195, 143, 184, 101, 72, 38, 200, 18, 74, 206, 231, 210, 98, 12, 224, 31, 239, 17, 117, 120, 113, 165, 142, 118, 61, 189, 188, 134, 87, 11, 40, 47, 163, 218, 212, 228, 15, 169, 39, 83, 4, 27, 252, 172, 230, 122, 7, 174, 99, 197, 219, 226, 234, 148, 139, 196, 213, 157, 248, 144, 107, 177, 13, 214, 235, 198, 14, 207, 173, 8, 78, 215, 227, 93, 80, 30, 179, 91, 35, 56, 52, 104, 70, 3, 140, 221, 156, 125, 160, 205, 26, 65, 28]
def inv (a : UInt8) : UInt8 := UInt8.ofNat (invs.getD a.toNat 0)
set_option maxRecDepth 100000 in
theorem inv_all : (List.range 256).all (fun a => a == 0 || (mul 8 27 a (invs.getD a 0) == 1 && decide (invs.getD a 0 < 256))) = true := by decide +kernel
theorem inv_zero : inv 0 = 0 := by decide +kernel
theorem tm_inv (a : UInt8) (h : a ≠ 0) : tm a (inv a) = 1 := by
  have := List.all_eq_true.1 inv_all a.toNat (List.mem_range.2 a.toNat_lt)
  have h0 : (a.toNat == 0) = false := by rw [beq_eq_false_iff_ne]; intro e; exact h (UInt8.toNat_inj.1 e)
  rw [h0, Bool.false_or, Bool.and_eq_true, beq_iff_eq, decide_eq_true_eq] at this
  apply UInt8.toNat_inj.1
  rw [tm_nat, inv, UInt8.toNat_ofNat', Nat.mod_eq_of_lt this.2]
  exact this.1
/-- There is one alone. -/
theorem inv_of (a b : UInt8) (h : tm a b = 1) : b = inv a := by
  have ha : a ≠ 0 := by rintro rfl; rw [zero_tm] at h; exact absurd h (by decide)
  calc b = tm 1 b := (one_tm b).symm
    _ = tm (tm a (inv a)) b := by rw [tm_inv a ha]
    _ = tm (tm (inv a) a) b := by rw [tm_comm a]
    _ = inv a := by rw [tm_assoc, h, tm_one]
theorem inv_inv (a : UInt8) : inv (inv a) = a := by
  by_cases ha : a = 0
  · subst ha; rw [inv_zero, inv_zero]
  · exact (inv_of _ _ (by rw [tm_comm, tm_inv a ha])).symm
theorem tm_entire (a b : UInt8) (h : tm a b = 0) : a = 0 ∨ b = 0 := by
  by_cases ha : a = 0
  · exact .inl ha
  · refine .inr ?_
    have h2 : tm (inv a) (tm a b) = b := by rw [← tm_assoc, tm_comm (inv a), tm_inv a ha, one_tm]
    rw [h, tm_zero] at h2
    exact h2.symm
/-- What the box makes of an inverse: its bits summed. -/
def bendBit (c i : Nat) : Nat := (99 / 2 ^ i % 2 + c / 2 ^ (i % 8) % 2 + c / 2 ^ ((i + 4) % 8) % 2 + c / 2 ^ ((i + 5) % 8) % 2 + c / 2 ^ ((i + 6) % 8) % 2 + c / 2 ^ ((i + 7) % 8) % 2) % 2
def bendN (c : Nat) : Nat → Nat
  | 0 => 0
  | i + 1 => bendN c i + bendBit c i * 2 ^ i
def bend (c : UInt8) : UInt8 := UInt8.ofNat (bendN c.toNat 8)
def box (a : UInt8) : UInt8 := bend (inv a)
set_option maxRecDepth 100000 in
theorem bend_lt : (List.range 256).all (fun c => decide (bendN c 8 < 256)) = true := by decide +kernel
/-- The box's way back, as a table. -/
def backs : List Nat := [82, 9, 106, 213, 48, 54, 165, 56, 191, 64, 163, 158, 129, 243, 215, 251, 124, 227, 57, 130, 155, 47, 255, 135, 52, 142, 67, 68, 196, 222, 233, 203, 84, 123, 148, 50, 166, 194, 35, 61, 238, 76, 149, 11, 66, 250, 195, 78, 8, 46, 161, 102, 40, 217, 36, 178, 118, 91, 162, 73, 109, 139, 209, 37, 114, 248, 246, 100, 134, 104, 152, 22, 212, 164, 92, 204, 93, 101, 182, 146, 108, 112, 72, 80, 253, 237, 185, 218, 94, 21, 70, 87, 167, 141, 157, 132, 144, 216, 171, 0, 140, 188, 211, 10, 247, 228, 88, 5, 184, 179, 69, 6, 208, 44, 30, 143, 202, 63, 15, 2, 193, 175, 189, 3, 1, 19, 138, 107, 58, 145, 17, 65, 79, 103, 220, 234, 151, 242, 207, 206, 240, 180, 230, 115, 150, 172, 116, 34, 231, 173, 53, 133, 226, 249, 55, 232, 28, 117, 223, 110, 71, 241, 26, 113, 29, 41, 197, 137, 111, 183, 98, 14, 170, 24, 190, 27, 252, 86, 62, 75, 198, 210, 121, 32, 154, 219, 192, 254, 120, 205, 90, 244, 31, 221, 168, 51, 136, 7, 199, 49, 177, 18, 16, 89, 39, 128, 236, 95, 96, 81, 127, 169, 25, 181, 74, 13, 45, 229, 122, 159, 147, 201, 156, 239, 160, 224, 59, 77, 174, 42, 245, 176, 200, 235, 187, 60, 131, 83, 153, 97, 23, 43, 4, 126, 186, 119, 214, 38, 225, 105, 20, 99, 85, 33, 12, 125]
def back (b : UInt8) : UInt8 := UInt8.ofNat (backs.getD b.toNat 0)
set_option maxRecDepth 100000 in
theorem back_all : (List.range 256).all (fun a => box (back (UInt8.ofNat a)) == UInt8.ofNat a && back (box (UInt8.ofNat a)) == UInt8.ofNat a) = true := by decide +kernel
theorem box_back (a : UInt8) : box (back a) = a := by
  have := List.all_eq_true.1 back_all a.toNat (List.mem_range.2 a.toNat_lt)
  rw [UInt8.ofNat_toNat, Bool.and_eq_true, beq_iff_eq, beq_iff_eq] at this
  exact this.1
theorem back_box (a : UInt8) : back (box a) = a := by
  have := List.all_eq_true.1 back_all a.toNat (List.mem_range.2 a.toNat_lt)
  rw [UInt8.ofNat_toNat, Bool.and_eq_true, beq_iff_eq, beq_iff_eq] at this
  exact this.2
theorem box_inj (a b : UInt8) (h : box a = box b) : a = b := by rw [← back_box a, h, back_box]
/-- To the power of 254. -/
def power (a : UInt8) : Nat → UInt8 × UInt8
  | 0 => (a, 1)
  | i + 1 => (tm (power a i).1 (power a i).1, tm (power a i).2 (tm (power a i).1 (power a i).1))
set_option maxRecDepth 100000 in
theorem power_all : (List.range 256).all (fun a => (power (UInt8.ofNat a) 7).2 == inv (UInt8.ofNat a)) = true := by decide +kernel
theorem power_inv (a : UInt8) : (power a 7).2 = inv a := by
  have := List.all_eq_true.1 power_all a.toNat (List.mem_range.2 a.toNat_lt)
  rw [UInt8.ofNat_toNat, beq_iff_eq] at this
  exact this
/-- All of a list multiplied. -/
def prodL (l : List UInt8) : UInt8 := l.foldl tm 1
theorem prodL_snoc (l : List UInt8) (b : UInt8) : prodL (l ++ [b]) = tm (prodL l) b := by rw [prodL, List.foldl_append]; rfl
theorem prodL_nil : prodL [] = 1 := rfl
theorem prodL_take (l : List UInt8) (k : Nat) (h : k < l.length) : prodL (l.take (k + 1)) = tm (prodL (l.take k)) l[k] := by
  rw [List.take_succ_eq_append_getElem h, prodL_snoc]
/-- Twice, over and over. -/
def twices (a : UInt8) : Nat → UInt8
  | 0 => a
  | n + 1 => tm (twices a n) 2
theorem twices_prod (a : UInt8) (n : Nat) : prodL (a :: List.replicate n 2) = twices a n := by
  induction n with
  | zero => exact one_tm a
  | succ n ih => rw [List.replicate_succ', ← List.cons_append, prodL_snoc, ih]; rfl
/-- The powers of 03: 01 comes back behind 255, and not earlier. -/
def pow3 (p : UInt8) : Nat → UInt8
  | 0 => p
  | n + 1 => tm (pow3 p n) 3
theorem pow3_next (p : UInt8) (n : Nat) : pow3 (tm p 3) n = pow3 p (n + 1) := by
  induction n with
  | zero => rfl
  | succ n ih => rw [pow3, ih]; rfl
def cyc : Nat → UInt8 → Bool
  | 0, p => p == 1
  | n + 1, p => !(p == 1) && cyc n (tm p 3)
theorem cyc_pow (n : Nat) : ∀ p, cyc n p = true → (∀ i, i < n → pow3 p i ≠ 1) ∧ pow3 p n = 1 := by
  induction n with
  | zero => intro p h; exact ⟨fun i hi => by omega, beq_iff_eq.1 h⟩
  | succ n ih =>
    intro p h
    rw [cyc, Bool.and_eq_true, Bool.not_eq_true', beq_eq_false_iff_ne] at h
    obtain ⟨h1, h2⟩ := ih _ h.2
    refine ⟨fun i hi => ?_, by rw [← pow3_next]; exact h2⟩
    cases i with
    | zero => exact h.1
    | succ i => rw [← pow3_next]; exact h1 i (by omega)
set_option maxRecDepth 100000 in
theorem cyc_three : cyc 254 3 = true := by decide +kernel
/-- Behind i + 1 factors of 03. -/
theorem three_not (i : Nat) (h : i < 254) : pow3 3 i ≠ 1 := (cyc_pow 254 3 cyc_three).1 i h
theorem three_all : pow3 3 254 = 1 := (cyc_pow 254 3 cyc_three).2
theorem bendN_zero (c : Nat) : bendN c 0 = 0 := rfl
theorem bendN_succ (c i : Nat) : bendN c (i + 1) = bendN c i + bendBit c i * 2 ^ i := rfl
theorem bendBit_lt (c i : Nat) : bendBit c i < 2 := Nat.mod_lt _ (by decide)
theorem bendBit_eq (c i : Nat) : bendBit c i = (99 / 2 ^ i % 2 + c / 2 ^ (i % 8) % 2 + c / 2 ^ ((i + 4) % 8) % 2 + c / 2 ^ ((i + 5) % 8) % 2 + c / 2 ^ ((i + 6) % 8) % 2 + c / 2 ^ ((i + 7) % 8) % 2) % 2 := rfl
theorem pow3_zero (p : UInt8) : pow3 p 0 = p := rfl
theorem pow3_succ (p : UInt8) (n : Nat) : pow3 p (n + 1) = tm (pow3 p n) 3 := rfl
attribute [irreducible] bendN bendBit pow3
end Go.Proofs.Ytndkmfflpphoiaa.Field
namespace Go.Proofs.Ytndkmfflpphoiaa.Field
open Go Go.RowKit Kit Gf
theorem all8 (p : UInt8 → Bool) (h : (List.range 256).all (fun a => p (UInt8.ofNat a)) = true) (a : UInt8) : p a = true := by
  have := List.all_eq_true.1 h a.toNat (List.mem_range.2 a.toNat_lt)
  rwa [UInt8.ofNat_toNat] at this
/-- Bit i, as a byte. -/
def bitOf (b : UInt8) (i : Nat) : UInt8 := (b >>> UInt8.ofNat i) &&& 1
def keep (a b : UInt8) : UInt8 := a &&& -b
set_option maxRecDepth 100000 in
theorem bitOf_nat (b : UInt8) (i : Nat) (h : i < 8) : bitOf b i = if b.toNat.testBit i then 1 else 0 := by
  have h8 : ∀ i, i < 8 → (List.range 256).all (fun b => bitOf (UInt8.ofNat b) i == if (UInt8.ofNat b).toNat.testBit i then 1 else 0) = true := by
    intro i hi
    have : i = 0 ∨ i = 1 ∨ i = 2 ∨ i = 3 ∨ i = 4 ∨ i = 5 ∨ i = 6 ∨ i = 7 := by omega
    rcases this with rfl | rfl | rfl | rfl | rfl | rfl | rfl | rfl <;> decide +kernel
  exact beq_iff_eq.1 (all8 (fun b => bitOf b i == if b.toNat.testBit i then 1 else 0) (h8 i h) b)
theorem keep_one (a : UInt8) : keep a 1 = a := beq_iff_eq.1 (all8 (fun a => keep a 1 == a) (by decide +kernel) a)
theorem keep_zero (a : UInt8) : keep a 0 = 0 := beq_iff_eq.1 (all8 (fun a => keep a 0 == 0) (by decide +kernel) a)
theorem keep_bit (a b : UInt8) (i : Nat) (h : i < 8) : keep a (bitOf b i) = if b.toNat.testBit i then a else 0 := by
  rw [bitOf_nat b i h]
  split
  · exact keep_one a
  · exact keep_zero a
set_option maxRecDepth 100000 in
theorem twice_eq (a : UInt8) : (a <<< 1) ^^^ keep 27 (a >>> 7) = tm a 2 :=
  beq_iff_eq.1 (all8 (fun a => (a <<< 1) ^^^ keep 27 (a >>> 7) == tm a 2) (by decide +kernel) a)
/-- The product's loop. -/
def psum (a b : UInt8) : Nat → UInt8
  | 0 => 0
  | i + 1 => psum a b i ^^^ keep (twices a i) (bitOf b i)
theorem psum_zero (a b : UInt8) : psum a b 0 = 0 := rfl
theorem psum_succ (a b : UInt8) (i : Nat) : psum a b (i + 1) = psum a b i ^^^ keep (twices a i) (bitOf b i) := rfl
theorem twices_zero (a : UInt8) : twices a 0 = a := rfl
theorem twices_succ (a : UInt8) (n : Nat) : twices a (n + 1) = tm (twices a n) 2 := rfl
theorem twices_nat (a : UInt8) (n : Nat) : (twices a n).toNat = xts 8 27 n a.toNat := by
  induction n with
  | zero => rfl
  | succ n ih => rw [twices_succ, twice_tm, ih, xts_succ]
theorem psum_nat (a b : UInt8) (n : Nat) (h : n ≤ 8) : (psum a b n).toNat = mulN 8 27 a.toNat b.toNat n := by
  induction n with
  | zero => rfl
  | succ n ih =>
    rw [psum_succ, UInt8.toNat_xor, ih (by omega), keep_bit _ _ _ (by omega), mulN]
    congr 1
    split
    · exact twices_nat a n
    · rfl
theorem psum_tm (a b : UInt8) : psum a b 8 = tm a b := by
  apply UInt8.toNat_inj.1
  rw [psum_nat _ _ _ (Nat.le_refl _), tm_nat, mul]
/-- The squares of single bits. -/
def SQ : List UInt8 := [1, 4, 16, 64, 27, 108, 171, 154]
theorem SQ_length : SQ.length = 8 := rfl
def ssum (a : UInt8) : Nat → UInt8
  | 0 => 0
  | i + 1 => ssum a i ^^^ keep (SQ.getD i 0) (bitOf a i)
theorem ssum_zero (a : UInt8) : ssum a 0 = 0 := rfl
theorem ssum_succ (a : UInt8) (i : Nat) : ssum a (i + 1) = ssum a i ^^^ keep (SQ.getD i 0) (bitOf a i) := rfl
set_option maxRecDepth 100000 in
theorem ssum_tm (a : UInt8) : ssum a 8 = tm a a := beq_iff_eq.1 (all8 (fun a => ssum a 8 == tm a a) (by decide +kernel) a)
theorem power_zero (a : UInt8) : power a 0 = (a, 1) := rfl
theorem power_fst (a : UInt8) (i : Nat) : (power a (i + 1)).1 = tm (power a i).1 (power a i).1 := rfl
theorem power_snd (a : UInt8) (i : Nat) : (power a (i + 1)).2 = tm (power a i).2 (power a (i + 1)).1 := rfl
/-- A byte turned to the left. -/
def rol (a : UInt8) (k : Nat) : UInt8 := (a <<< UInt8.ofNat k) ||| (a >>> UInt8.ofNat (8 - k))
set_option maxRecDepth 100000 in
theorem bend_eq (c : UInt8) : c ^^^ rol c 1 ^^^ rol c 2 ^^^ rol c 3 ^^^ rol c 4 ^^^ 99 = bend c :=
  beq_iff_eq.1 (all8 (fun c => c ^^^ rol c 1 ^^^ rol c 2 ^^^ rol c 3 ^^^ rol c 4 ^^^ 99 == bend c) (by decide +kernel) c)
set_option maxRecDepth 100000 in
theorem back_eq (a : UInt8) : inv (rol (a ^^^ 99) 1 ^^^ rol (a ^^^ 99) 3 ^^^ rol (a ^^^ 99) 6) = back a :=
  beq_iff_eq.1 (all8 (fun a => inv (rol (a ^^^ 99) 1 ^^^ rol (a ^^^ 99) 3 ^^^ rol (a ^^^ 99) 6) == back a) (by decide +kernel) a)
/-- A byte's value. -/
def cb (a : UInt8) : Int := (a.toNat : Int)
theorem cb_bv (a : UInt8) : Value.int .u8 (cb a) = bv a := rfl
theorem ofInt_u8 (a : UInt8) : (BitVec.ofInt 8 (cb a)).toNat = a.toNat := by
  rw [cb, BitVec.ofInt_natCast, BitVec.toNat_ofNat]; exact Nat.mod_eq_of_lt a.toNat_lt
theorem wrap_u8 (n : Nat) : IntKind.u8.wrap (n : Int) = cb (UInt8.ofNat n) := by
  rw [IntKind.wrap_u8, cb]; simp
@[go_sem] theorem u8_xor (a b : UInt8) : bits .xor .u8 (cb a) (cb b) = cb (a ^^^ b) := by
  show IntKind.u8.wrap ((BitVec.ofInt 8 (cb a) ^^^ BitVec.ofInt 8 (cb b)).toNat : Int) = _
  rw [BitVec.toNat_xor, ofInt_u8, ofInt_u8, wrap_u8, ← UInt8.toNat_xor, UInt8.ofNat_toNat]
@[go_sem] theorem u8_or (a b : UInt8) : bits .or .u8 (cb a) (cb b) = cb (a ||| b) := by
  show IntKind.u8.wrap ((BitVec.ofInt 8 (cb a) ||| BitVec.ofInt 8 (cb b)).toNat : Int) = _
  rw [BitVec.toNat_or, ofInt_u8, ofInt_u8, wrap_u8, ← UInt8.toNat_or, UInt8.ofNat_toNat]
@[go_sem] theorem u8_and (a b : UInt8) : bits .and .u8 (cb a) (cb b) = cb (a &&& b) := by
  show IntKind.u8.wrap ((BitVec.ofInt 8 (cb a) &&& BitVec.ofInt 8 (cb b)).toNat : Int) = _
  rw [BitVec.toNat_and, ofInt_u8, ofInt_u8, wrap_u8, ← UInt8.toNat_and, UInt8.ofNat_toNat]
theorem cb_one : cb 1 = 1 := rfl
@[go_sem] theorem u8_and1 (a : UInt8) : bits .and .u8 (cb a) 1 = cb (a &&& 1) := u8_and a 1
@[go_sem] theorem u8_xor99 (a : UInt8) : bits .xor .u8 (cb a) 99 = cb (a ^^^ 99) := u8_xor a 99
@[go_sem] theorem u8_neg (a : UInt8) : IntKind.u8.wrap (-(cb a)) = cb (-a) := by
  have := a.toNat_lt
  rw [IntKind.wrap_u8, cb, cb, UInt8.toNat_neg, show UInt8.size = 256 by decide]; omega
theorem u8_shl (a : UInt8) (k : Nat) (h : k < 8) : IntKind.u8.wrap (cb a * 2 ^ k) = cb (a <<< UInt8.ofNat k) := by
  rw [IntKind.wrap_u8, cb, cb, UInt8.toNat_shiftLeft, Nat.shiftLeft_eq, UInt8.toNat_ofNat', show k % 2 ^ 8 % 8 = k by omega]; simp
theorem u8_shr (a : UInt8) (k : Nat) (h : k < 8) : cb a / 2 ^ k = cb (a >>> UInt8.ofNat k) := by
  rw [cb, cb, UInt8.toNat_shiftRight, Nat.shiftRight_eq_div_pow, UInt8.toNat_ofNat', show k % 2 ^ 8 % 8 = k by omega]; simp
@[go_sem] theorem u8_shl1 (a : UInt8) : IntKind.u8.wrap (cb a * (2 : Int)) = cb (a <<< 1) := u8_shl a 1 (by omega)
@[go_sem] theorem u8_shr7 (a : UInt8) : cb a / (128 : Int) = cb (a >>> 7) := u8_shr a 7 (by omega)
theorem cb_inj {a b : UInt8} : cb a = cb b ↔ a = b := ⟨fun h => UInt8.toNat_inj.1 (by unfold cb at h; omega), fun h => by rw [h]⟩
theorem cb_range (a : UInt8) : 0 ≤ cb a ∧ cb a < 256 := by have := a.toNat_lt; unfold cb; omega
theorem of_cb (n : Int) (h : 0 ≤ n ∧ n < 256) : ∃ a : UInt8, n = cb a := ⟨UInt8.ofNat n.toNat, by unfold cb; simp; omega⟩
end Go.Proofs.Ytndkmfflpphoiaa.Field
namespace Go.Proofs.Ytndkmfflpphoiaa.Field
open Go Go.RowKit Kit
theorem wrap64_in (n : Int) (h : -9223372036854775808 ≤ n ∧ n ≤ 9223372036854775807) : wrap64 n = n := by unfold wrap64; omega
theorem bits_xor_i64_nat (a b : Nat) (ha : a < 9223372036854775808) (hb : b < 9223372036854775808) :
    bits .xor .i64 (a : Int) (b : Int) = ((a ^^^ b : Nat) : Int) := by
  have hx : a ^^^ b < 2 ^ 63 := Nat.xor_lt_two_pow (by omega) (by omega)
  have h1 : (BitVec.ofInt 64 (a : Int)).toNat = a := by
    rw [BitVec.ofInt_natCast, BitVec.toNat_ofNat]; exact Nat.mod_eq_of_lt (by omega)
  have h2 : (BitVec.ofInt 64 (b : Int)).toNat = b := by
    rw [BitVec.ofInt_natCast, BitVec.toNat_ofNat]; exact Nat.mod_eq_of_lt (by omega)
  show IntKind.i64.wrap ((BitVec.ofInt 64 (a : Int) ^^^ BitVec.ofInt 64 (b : Int)).toNat : Int) = _
  rw [BitVec.toNat_xor, h1, h2]
  rw [IntKind.wrap_i64]
  omega
theorem xor_small (a b : Nat) (ha : a < 65536) (hb : b < 65536) : bits .xor .i64 (a : Int) (b : Int) = ((a ^^^ b : Nat) : Int) :=
  bits_xor_i64_nat a b (Nat.lt_of_lt_of_le ha (by decide)) (Nat.lt_of_lt_of_le hb (by decide))
theorem small_wrap (x : Nat) (h : x < 65536) : wrap64 (x : Int) = x := wrap64_in _ (by omega)
theorem up_lt (a b : Nat) (ha : a < 256) (i : Nat) : i ≤ 8 → up a b i < 2 ^ (8 + i) := by
  induction i with
  | zero => intro _; exact Nat.two_pow_pos _
  | succ i ih =>
    intro h
    have h1 := ih (by omega)
    have h2 : a * 2 ^ i < 2 ^ (8 + (i + 1)) := by
      rw [show 8 + (i + 1) = 9 + i by omega, Nat.pow_add]
      exact Nat.mul_lt_mul_of_pos_right (by omega) (Nat.two_pow_pos i)
    have h3 : up a b i < 2 ^ (8 + (i + 1)) := Nat.lt_trans h1 (Nat.pow_lt_pow_right (by omega) (by omega))
    rw [up]
    split
    · exact Nat.xor_lt_two_pow h3 h2
    · exact h3
theorem down_lt (x : Nat) (hx : x < 65536) (k : Nat) : k ≤ 8 → down x k < 65536 := by
  induction k with
  | zero => intro _; exact hx
  | succ k ih =>
    intro h
    have h1 := ih (by omega)
    rw [down]
    split
    · have h2 : 283 * 2 ^ (7 - k) < 2 ^ 16 := by
        have : 2 ^ (7 - k) ≤ 2 ^ 7 := Nat.pow_le_pow_right (by omega) (by omega)
        omega
      exact Nat.xor_lt_two_pow (n := 16) h1 h2
    · exact h1
theorem up_zero (a b : Nat) : up a b 0 = 0 := rfl
theorem up_one (a b i : Nat) (h : b / 2 ^ i % 2 = 1) : up a b (i + 1) = up a b i ^^^ (a * 2 ^ i) := by rw [up, if_pos h]
theorem up_none (a b i : Nat) (h : b / 2 ^ i % 2 = 0) : up a b (i + 1) = up a b i := by rw [up, if_neg (by omega)]
theorem down_zero (x : Nat) : down x 0 = x := rfl
theorem down_one (x i : Nat) (h : down x i / 2 ^ (15 - i) % 2 = 1) : down x (i + 1) = down x i ^^^ (283 * 2 ^ (7 - i)) := by rw [down, if_pos h]
theorem down_none (x i : Nat) (h : down x i / 2 ^ (15 - i) % 2 = 0) : down x (i + 1) = down x i := by rw [down, if_neg (by omega)]
theorem bit_tmod (b i q : Nat) (h : b / 2 ^ i % 2 = q) : ((b : Int) / 2 ^ i).tmod 2 = (q : Int) := by
  have e : (b : Int) / 2 ^ i = ((b / 2 ^ i : Nat) : Int) := by simp
  rw [e]; clear e
  generalize b / 2 ^ i = m at *
  rw [Int.tmod_eq_emod_of_nonneg (by omega)]; omega
theorem cb_wrap (a : UInt8) : wrap64 (cb a) = (a.toNat : Int) := by have := a.toNat_lt; exact wrap64_in _ (by unfold cb; omega)
end Go.Proofs.Ytndkmfflpphoiaa.Field
