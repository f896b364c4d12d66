/- VaultClashes, plainly: what was sealed last under each key's token and number. · The statement of coffretlaw10.VaultClashes, over what 'note' does. · The statement of coffretlaw10.VaultClashes, for lists of any lengths, over what 'note' does. -/
import Derived.Test.YtmmpmncioifeoaaZG19
import Derived.Test.YtmmpmncioifeoaaZG17
import Derived.Test.YtmmpmncioifeoaaZG03
import Derived.Test.YtmmpmncioifeoaaZG18
import Derived.Test.YtmmpmncioifeoaaZG07
namespace Go.Proofs.Ytmmpmncioifeoaa.Vault
set_option linter.unusedVariables false
set_option linter.unusedSimpArgs false
open Go Go.RowKit Kit
open Ideal (Thing mk out sealT derT z32 num tok mk_old mk_new mem_mk num_new num_stays out_old tok_inj tok_length num_le mk_mem mk_sub)

def i64 (n : Int) : Prop := -9223372036854775808 ≤ n ∧ n ≤ 9223372036854775807
theorem num8_inj {a b : Int} (ha : i64 a) (hb : i64 b) (h : num8 a = num8 b) : a = b := by
  rw [← num8_forth a ha, ← num8_forth b hb, h]
def kS : ByteArray := ⟨#[107]⟩
/-- The thing of a key's number; its token. -/
def K (k : Int) : Thing := derT z32 (pur kS [k])
theorem K_kind (k : Int) : (K k).kind = 68 := rfl
theorem K_inj {a b : Int} (ha : i64 a) (hb : i64 b) (h : K a = K b) : a = b := by
  have h1 : pur kS [a] = pur kS [b] := congrArg Thing.b h
  unfold pur at h1
  have h2 := List.append_cancel_left h1
  simp at h2
  exact num8_inj ha hb h2
def Kt (ts : List Thing) (k : Int) : List UInt8 := out ts (K k) 32
theorem Kt_length (ts : List Thing) (k : Int) : (Kt ts k).length = 32 := tok_length _ _ _ (by omega)
theorem out_mk (ts : List Thing) (t u : Thing) (n : Nat) (h : u ∈ mk ts t) : out (mk ts t) u n = out ts u n := by
  rw [out_old _ _ _ h]
  by_cases hu : u ∈ ts
  · rw [out_old _ _ _ hu, num_stays _ _ _ hu]
  · rcases (mem_mk _ _ _).1 h with rfl | h
    · rfl
    · exact absurd h hu
theorem Kt_ne (ts : List Thing) (a b : Int) (hw : ts.length < 1000000) (ha : K a ∈ ts) (hb : K b ∉ ts) : Kt ts a ≠ Kt ts b := by
  intro h
  unfold Kt at h
  rw [out_old _ _ _ ha, out, num_new _ _ hb] at h
  have h1 := num_le ts (K a)
  have := (tok_inj (by omega) (by omega) h).2
  omega
theorem Kt_inj (ts : List Thing) (a b : Int) (hw : ts.length < 1000000) (ha : K a ∈ ts) (hb : K b ∈ ts) (ia : i64 a) (ib : i64 b) (h : Kt ts a = Kt ts b) : a = b := by
  unfold Kt at h
  rw [out_old _ _ _ ha, out_old _ _ _ hb] at h
  have h1 := num_le ts (K a); have h2 := num_le ts (K b)
  have := (tok_inj (by omega) (by omega) h).2
  exact K_inj ia ib (Ideal.num_inj _ this ha)
theorem nonce_inj {a b : Int} (ha : 0 ≤ a ∧ a < 100) (hb : 0 ≤ b ∧ b < 100) (h : nonce 1 a = nonce 1 b) : a = b := by
  rw [nonce_eq, nonce_eq] at h
  exact num8_inj (by unfold i64; omega) (by unfold i64; omega) (List.append_cancel_left h)
theorem pl_inj {a b c d : List UInt8} (ha : a.length = 32) (hc : c.length = 32) (h : a ++ b = c ++ d) : a = c ∧ b = d := List.append_inj h (by rw [ha, hc])

/-- The text that was sealed last with a key's number and a number. -/
def prev (ks qs : List Int) (xs : List (List UInt8)) : Nat → Int → Int → Option (List UInt8)
  | 0, _, _ => none
  | i + 1, k, s => if ks[i]? = some k ∧ qs[i]? = some s then xs[i]? else prev ks qs xs i k s
theorem prev_none (ks qs : List Int) (xs : List (List UInt8)) (i : Nat) (k s : Int) (h : k ∉ ks.take i) : prev ks qs xs i k s = none := by
  induction i with
  | zero => rfl
  | succ i ih =>
    have h1 : k ∉ ks.take i ∧ ks[i]? ≠ some k := by
      refine ⟨fun e => h ?_, fun e => h ?_⟩
      · rw [List.take_add_one]; exact List.mem_append_left _ e
      · rw [List.take_add_one, e]; simp
    rw [prev, if_neg (fun e => h1.2 e.1), ih h1.1]
theorem mem_take_one (ks : List Int) (i : Nat) (k a : Int) (hk : ks[i]? = some k) : a ∈ ks.take (i + 1) ↔ a = k ∨ a ∈ ks.take i := by
  rw [List.take_add_one, hk, List.mem_append]
  simp only [Option.toList_some, List.mem_singleton]
  exact or_comm

/-- What was made and sealed so far. -/
structure Cs (ks qs : List Int) (xs : List (List UInt8)) (i : Nat) (ts : List Thing) (sl : List (Pl × List UInt8)) : Prop where
  of ::
  a : ∀ k ∈ ks, K k ∈ ts ↔ k ∈ ks.take i
  b : ∀ q ∈ sl, ∃ k s, k ∈ ks.take i ∧ (0 ≤ s ∧ s < 100) ∧ q.1.1 = Kt ts k ++ nonce 1 s
  c : ∀ k ∈ ks.take i, ∀ s, (0 ≤ s ∧ s < 100) → ∀ q : Pl, q.1 = Kt ts k ++ nonce 1 s → last sl q = prev ks qs xs i k s
  n : ts.length ≤ 2 * i
theorem cs_nil (ks qs : List Int) (xs : List (List UInt8)) : Cs ks qs xs 0 [] [] := ⟨fun k _ => by simp, fun q h => (by cases h), fun k h => (by simp at h), by simp⟩
/-- What stands at the place that is sealed now. -/
theorem Cs.last {ks qs : List Int} {xs : List (List UInt8)} {i : Nat} {ts : List Thing} {sl : List (Pl × List UInt8)} (h : Cs ks qs xs i ts sl) (hi : i ≤ 60) (k s : Int) (hk : k ∈ ks) (hs : 0 ≤ s ∧ s < 100) (q : Pl) (hq : q.1 = Kt ts k ++ nonce 1 s) :
    Vault.last sl q = prev ks qs xs i k s := by
  by_cases hm : k ∈ ks.take i
  · exact h.c k hm s hs q hq
  · rw [prev_none _ _ _ _ _ _ hm, last_none]
    intro x hx e
    obtain ⟨k2, s2, h2, _, h3⟩ := h.b x hx
    rw [e, hq] at h3
    have h4 := (pl_inj (Kt_length _ _) (Kt_length _ _) h3).1
    exact Kt_ne ts k2 k (by have := h.n; omega) ((h.a k2 (List.mem_of_mem_take h2)).2 h2) (fun e => hm ((h.a k hk).1 e)) h4.symm
theorem Cs.step {ks qs : List Int} {xs : List (List UInt8)} {i : Nat} {ts : List Thing} {sl : List (Pl × List UInt8)} (h : Cs ks qs xs i ts sl) (hi : i ≤ 60) (k s : Int) (x : List UInt8) (hki : ks[i]? = some k) (hqi : qs[i]? = some s) (hxi : xs[i]? = some x) (hs : 0 ≤ s ∧ s < 100) (hw : ∀ a ∈ ks, i64 a) (p : Pl) (hp : p.1 = Kt ts k ++ nonce 1 s) (t : Thing) (ht : t.kind = 83) :
    Cs ks qs xs (i + 1) (mk (mk ts (K k)) t) (upd sl p x) := by
  have hk : k ∈ ks := List.mem_of_getElem? hki
  have hmem : ∀ a ∈ ks, K a ∈ mk (mk ts (K k)) t ↔ a ∈ ks.take (i + 1) := by
    intro a ha
    rw [mem_mk, mem_mk, mem_take_one ks i k a hki, h.a a ha]
    constructor
    · rintro (e | e | e)
      · have := congrArg Thing.kind e; rw [K_kind, ht] at this; cases this
      · exact .inl (K_inj (hw a ha) (hw k hk) e)
      · exact .inr e
    · rintro (e | e)
      · exact .inr (.inl (by rw [e]))
      · exact .inr (.inr e)
  have hmem1 : ∀ a ∈ ks, a ∈ ks.take (i + 1) → K a ∈ mk ts (K k) := by
    intro a ha h1
    rcases (mem_take_one ks i k a hki).1 h1 with e | e
    · rw [e]; exact mk_mem _ _
    · exact mk_sub _ _ ((h.a a ha).2 e)
  have hkt : ∀ a ∈ ks.take (i + 1), Kt (mk (mk ts (K k)) t) a = Kt ts a := by
    intro a h1
    have ha := List.mem_of_mem_take h1
    have e1 := hmem1 a ha h1
    unfold Kt
    rw [out_mk _ _ _ _ (mk_sub _ _ e1), out_mk _ _ _ _ e1]
  have hlen : (mk (mk ts (K k)) t).length ≤ 2 * (i + 1) := by
    have h1 := Ideal.mk_length_le ts (K k); have h2 := Ideal.mk_length_le (mk ts (K k)) t; have := h.n; omega
  refine ⟨hmem, fun q hq => ?_, fun a ha s2 hs2 q hq => ?_, hlen⟩
  · have hkeys : q.1 = p ∨ ∃ z ∈ sl, z.1 = q.1 := by
      cases hl : Vault.last sl p with
      | none =>
        rw [upd_new _ _ _ hl] at hq
        rcases List.mem_append.1 hq with hq | hq
        · exact .inr ⟨q, hq, rfl⟩
        · rw [List.mem_singleton.1 hq]; exact .inl rfl
      | some u =>
        obtain ⟨j, h1, h2⟩ := upd_old sl p x u hl
        rw [h2] at hq
        rcases List.mem_or_eq_of_mem_set hq with hq | hq
        · exact .inr ⟨q, hq, rfl⟩
        · rw [hq]; exact .inl rfl
    rcases hkeys with e | ⟨z, hz, e⟩
    · refine ⟨k, s, (mem_take_one ks i k k hki).2 (.inl rfl), hs, ?_⟩
      rw [e, hp, hkt k ((mem_take_one ks i k k hki).2 (.inl rfl))]
    · obtain ⟨k2, s2, h2, h3, h4⟩ := h.b z hz
      refine ⟨k2, s2, (mem_take_one ks i k k2 hki).2 (.inr h2), h3, ?_⟩
      rw [← e, h4, hkt k2 ((mem_take_one ks i k k2 hki).2 (.inr h2))]
  · rw [hkt a ha] at hq
    rw [last_upd, prev, hki, hqi, hxi]
    have haks := List.mem_of_mem_take ha
    by_cases e : p = q
    · have h1 : Kt ts k ++ nonce 1 s = Kt ts a ++ nonce 1 s2 := by rw [← hp, ← hq, e]
      obtain ⟨h2, h3⟩ := pl_inj (Kt_length _ _) (Kt_length _ _) h1
      have h4 := nonce_inj hs hs2 h3
      have h5 : k = a := by
        have hm1 := hkt k ((mem_take_one ks i k k hki).2 (.inl rfl)); have hm2 := hkt a ha
        exact Kt_inj (mk (mk ts (K k)) t) k a (by omega) ((hmem k hk).2 ((mem_take_one ks i k k hki).2 (.inl rfl))) ((hmem a haks).2 ha) (hw k hk) (hw a haks) (by rw [hm1, hm2, h2])
      rw [if_pos e, if_pos ⟨by rw [h5], by rw [h4]⟩]
    · rw [if_neg e]
      have hne : ¬ ((some k : Option Int) = some a ∧ (some s : Option Int) = some s2) := by
        rintro ⟨h1, h2⟩
        injection h1 with h1; injection h2 with h2
        exact e (Pl.same (by rw [hp, hq, h1, h2]))
      rw [if_neg hne]
      exact h.last hi a s2 haks hs2 q hq
/-- How many clashes there are. -/
def more (dif : List UInt8 → List UInt8 → Bool) (o : Option (List UInt8)) (x : List UInt8) : Nat := match o with | none => 0 | some u => if dif u x then 1 else 0
end Go.Proofs.Ytmmpmncioifeoaa.Vault
namespace Go.Proofs.Ytmmpmncioifeoaa.Vault
set_option linter.unusedVariables false
set_option linter.unusedSimpArgs false
open Go Go.RowKit Kit
open Ideal (Iw Iq Ans Arg Args Thing mk out sealT opn macT derT hashT z32 zc zc_run zc_length zc_eq args_none lit_arg str_arg)
open Sha (Pc PcsOk catP)

theorem int_at {w : World} {A : Option Addr} {ns : List Int} (h : Row w A (ivs ns)) (i : Nat) (x : Int) (hx : ns[i]? = some x) : ∃ b o, A = some ⟨b, o, none⟩ ∧ b < w.heap.size ∧ w.cell? ⟨b, o + i, none⟩ = some (.int .i64 x) := by
  have hi := (List.getElem?_eq_some_iff.1 hx).1
  obtain ⟨b, o, h1, h2, h3⟩ := h.at_ (i := i) (by rw [ivs_length]; exact hi)
  refine ⟨b, o, h1, h2, ?_⟩
  rw [h3]
  simp only [ivs, List.getElem_map, (List.getElem?_eq_some_iff.1 hx).2]
def tvs (xs : List (List UInt8)) : List Value := xs.map fun s => .string (str s)
theorem text_at {w : World} {A : Option Addr} {ss : List (List UInt8)} (h : Row w A (tvs ss)) (i : Nat) (x : List UInt8) (hx : ss[i]? = some x) : ∃ b o, A = some ⟨b, o, none⟩ ∧ b < w.heap.size ∧ w.cell? ⟨b, o + i, none⟩ = some (.string (str x)) := by
  have hi := (List.getElem?_eq_some_iff.1 hx).1
  obtain ⟨b, o, h1, h2, h3⟩ := h.at_ (i := i) (by rw [tvs, List.length_map]; exact hi)
  refine ⟨b, o, h1, h2, ?_⟩
  rw [h3]
  simp only [tvs, List.getElem_map, (List.getElem?_eq_some_iff.1 hx).2]
/-- An argument behind a call that grows a world. -/
theorem arg_later {w w2 : World} {F F0 F2 : Nat → Prop} {A : Option Addr} {n c : Nat} {l : List UInt8} (h : Arg w F A n c l) (k : Kp F0 w w2) (h0 : ∀ i, F0 i → F i) (h2 : ∀ i, F2 i → F i ∨ w.heap.size ≤ i) : Arg w2 F2 A n c l := by
  have h3 := h.keep k h0
  refine ⟨h3.len, h3.row, ?_, h3.cap, h3.mx, h3.nil⟩
  by_cases e : l = []
  · exact .inl e
  · refine .inr (fun j hj hf => ?_)
    have hlt := h.row.lt (by simpa [bvs] using e) j hj
    rcases h2 j hf with hf | hf
    · exact (h.far.resolve_left e) j hj hf
    · omega
/-- A round of the law: what stands so far. -/
structure Rd (ks qs : List Int) (xs : List (List UInt8)) (w wr : World) (v m p : Nat) (i cl : Nat) (ts : List Thing) (F : Nat → Prop) (sl : List (Pl × List UInt8)) : Prop where
  cs : Cs ks qs xs i ts sl
  iw : Iw wr p F ts
  vs : Vs F wr v m (imk p) z32 100 sl cl
  ne : ¬ F v ∧ ¬ F m
  f : ∀ k, F k → w.heap.size ≤ k
  lt : w.heap.size ≤ v ∧ w.heap.size ≤ m
  k : Kp nob w wr
  n : cl ≤ i
theorem Rd.keep {ks qs : List Int} {xs : List (List UInt8)} {w wr w2 : World} {v m p i cl : Nat} {ts : List Thing} {F : Nat → Prop} {sl : List (Pl × List UInt8)} (h : Rd ks qs xs w wr v m p i cl ts F sl) (k : Kp nob wr w2) : Rd ks qs xs w w2 v m p i cl ts F sl :=
  ⟨h.cs, h.iw.keep k (fun _ _ e => e), h.vs.keep0 k, h.ne, h.f, h.lt, h.k.trans k (fun _ e => e.elim), h.n⟩
theorem str_beq (a b : List UInt8) : ((str a).toList == (str b).toList) = decide (a = b) := by rw [str_toList, str_toList]; by_cases h : a = b <;> simp [h]
def dife (a b : List UInt8) : Bool := decide (a ≠ b)
theorem more_le (dif : List UInt8 → List UInt8 → Bool) (o : Option (List UInt8)) (x : List UInt8) : more dif o x ≤ 1 := by
  unfold more
  split
  · omega
  · split <;> omega
theorem exec_conv {P : Program} {a : Act} {o : Oper} {w w' : World} (src dst : TypeId) (x : Operand) (ho : o.op = .convert src dst x) {r : Value} (u : Value) (hx : a.eval x = u) (h : (convert src dst u).run P w = .ok r w') : (execOp a.eval o).run P w = .ok (.value r) w' := by
  subst hx
  unfold execOp
  simp only [ho, Sem.run_bind, h, Result.andThen_ok, Sem.run_pure]

set_option maxHeartbeats 4000000 in
set_option maxRecDepth 100000 in
theorem clashes_yes (Z : World → Prop) (hN : NoteC dife Z) (A : Option Addr) (n c : Nat) (ks : List Int) (Q : Option Addr) (nQ cq : Nat) (qs : List Int) (T : Option Addr) (nt ct : Nat) (xs : List (List UInt8)) (w : World)
    (h1 : ks.length = n) (h2 : qs.length = nQ) (h3 : xs.length = nt) (r1 : Row w A (ivs ks)) (r2 : Row w Q (ivs qs)) (r3 : Row w T (tvs xs)) (hk : ∀ a ∈ ks, i64 a) (hn : n ≤ 60) (hnq : n ≤ nQ) (hnt : n ≤ nt) (hz : ∀ w', Kp nob w w' → Z w') :
    Calls Try.prog 4 #[.slice A n c, .slice Q nQ cq, .slice T nt ct] w fun e w' => e = .returned (.bool true) ∧ Kp nob w w' := by
  have d1 : decide ((60 : Int) < (n : Int)) = false := by simp; omega
  have d2 : decide ((nQ : Int) < (n : Int)) = false := by simp; omega
  have d3 : decide ((nt : Int) < (n : Int)) = false := by simp; omega
  have R1 := Lib.hid r1; have R2 := Lib.hid r2; have R3 := Lib.hid r3
  have HL := Lib.hid (And.intro h1 (And.intro h2 h3)); have HI := Lib.hid hk
  have HN := Lib.hid hN; have HZ := Lib.hid hz
  clear r1 r2 r3 h1 h2 h3 hk
  go_enter Try.func4, Try.ntmps4
  go_wp2_with fail
  refine (alive_yes dife Z hN w hz).mono ?_
  rintro e w1 ⟨rfl, k1⟩
  have HK1 := Lib.hid k1; clear k1 hN hz
  go_wp2_with fail
  refine (Ideal.new_i w1).mono ?_
  rintro e w2 ⟨p, F0, rfl, hq⟩
  have HQ := Lib.hid hq; clear hq
  go_wp2_with (first
    | (refine wpList_built rfl 28 _ rfl (.agg zc.toArray) (by exact exec_build _ _ rfl [] _ rfl (zk_build _)) ?_)
    | fail)
  rw [zc_eq]
  refine (ideal_any p z32 100 w2 z32_length).mono ?_
  rintro e w3 ⟨v, m, rfl, hv, k3, n1, n2⟩
  have HF : Hid (Fresh0 w1 w3 v m p F0 z32 100) := Lib.hid (fresh_of HQ.out hv k3 n1 n2)
  clear hv k3 n1 n2 HQ
  go_wp2
  go_loopw [8, 38] (fun vn vi wr => ∃ (i cl : Nat) (ts : List Thing) (F : Nat → Prop) (sl : List (Pl × List UInt8)), i ≤ n ∧ vi = .int .i64 i ∧ vn = .int .i64 (cl : Nat) ∧ Rd ks qs xs w wr v m p i cl ts F sl)
    (fun _ vi _ => n - (intOf vi).toNat)
  case atStart => exact ⟨0, 0, [], F0, [], by omega, rfl, rfl, cs_nil _ _ _, HF.out.iw, HF.out.vs, HF.out.ne, fun k e => Nat.le_trans HK1.out.size (HF.out.f k e), ⟨Nat.le_trans HK1.out.size HF.out.lt.1, Nat.le_trans HK1.out.size HF.out.lt.2⟩, HK1.out.trans HF.out.kp (fun _ e => e.elim), Nat.le_refl _⟩
  case' round =>
    obtain ⟨i, cl, ts, F, sl, hi, rfl, rfl, hrd⟩ := hrel
    have HR := Lib.hid hrd
    clear hrd HK1 HF
    by_cases hlt : i < n
    case' neg =>
      obtain rfl : i = n := by omega
      go_wp2
      go_ret
      exact ⟨rfl, HR.out.k⟩
    case' pos =>
      obtain ⟨x, hx⟩ : ∃ x, xs[i]? = some x := ⟨_, List.getElem?_eq_getElem (by rw [HL.out.2.2]; omega)⟩
      obtain ⟨k, hki⟩ : ∃ k, ks[i]? = some k := ⟨_, List.getElem?_eq_getElem (by rw [HL.out.1]; omega)⟩
      obtain ⟨s, hsi⟩ : ∃ s, qs[i]? = some s := ⟨_, List.getElem?_eq_getElem (by rw [HL.out.2.1]; omega)⟩
      have HX := Lib.hid (And.intro hx (And.intro hki hsi))
      obtain ⟨bT, oT, hA3, hB3, hc3⟩ := text_at (R3.out.keep0 HR.out.k) i x hx
      obtain ⟨bA, oA, hA1, hB1, hc1⟩ := int_at (R1.out.keep0 HR.out.k) i k hki
      obtain ⟨bQ, oQ, hA2, hB2, hc2⟩ := int_at (R2.out.keep0 HR.out.k) i s hsi
      subst hA1; subst hA2; subst hA3
      have e1 : IntKind.i64.wrap ((i : Int) - 1) = (i : Int) - 1 := by rw [IntKind.wrap_i64]; omega
      clear hx hki hsi hB1 hB2 hB3
      by_cases hbig : 1024 < x.length
      case' pos =>
        have d4 : decide ((1024 : Int) < (x.length : Int)) = true := by simp; omega
        go_wp2
        go_ret
        exact ⟨rfl, HR.out.k⟩
      case' neg =>
        have d4 : decide ((1024 : Int) < (x.length : Int)) = false := by simp; omega
        by_cases hs0 : s < 0
        case' pos =>
          go_wp2
          go_ret
          exact ⟨rfl, HR.out.k⟩
        case' neg =>
          by_cases hs1 : 100 ≤ s
          case' pos =>
            go_wp2
            go_ret
            exact ⟨rfl, HR.out.k⟩
          case' neg =>
            go_wp2
            clear hc1 hc2 hc3
            go_loopw [8, 11] (fun vc vj wx => ∃ j : Nat, j ≤ i ∧ vj = .int .i64 ((j : Int) - 1) ∧ vc = .int .i64 (cl : Nat) ∧ prev ks qs xs i k s = prev ks qs xs j k s ∧ Rd ks qs xs w wx v m p i cl ts F sl)
              (fun _ vj _ => (intOf vj + 1).toNat)
            case atStart => exact ⟨i, by omega, rfl, rfl, rfl, HR.out⟩
            case round =>
              obtain ⟨j, hj, rfl, rfl, hp, hrx⟩ := hrel
              have HP := Lib.hid hp
              have HRX := Lib.hid hrx
              clear hp hrx HR
              by_cases h0 : j = 0
              case pos =>
                subst h0
                have em : (((0 : Nat) : Int) - 1) = -1 := by omega
                have HCW : Hid (cl = cl + more dife (prev ks qs xs i k s) x) := Lib.hid (by rw [HP.out]; rfl)
                go_wp2
                obtain ⟨wz, hwz⟩ : ∃ wz, wz = wr := ⟨_, rfl⟩
                rw [← hwz] at HRX ⊢
                clear hwz
                have HCQ : Hid (∀ w', Kp nob w w' → w'.cell? ⟨bQ, oQ + i, none⟩ = some (.int .i64 s)) := Lib.hid (fun w' h => by obtain ⟨b, o, hA, _, hc⟩ := int_at (R2.out.keep0 h) i s HX.out.2.2; cases hA; exact hc)
                have HCT : Hid (∀ w', Kp nob w w' → w'.cell? ⟨bT, oT + i, none⟩ = some (.string (str x))) := Lib.hid (fun w' h => by obtain ⟨b, o, hA, _, hc⟩ := text_at (R3.out.keep0 h) i x HX.out.1; cases hA; exact hc)
                have HS : Hid (Kp nob w wz.drew) := Lib.hid HRX.out.k.drew
                have HRD0 := Lib.hid (HRX.out.keep (Kp.refl nob wz).drew)
                have hiQ : i < nQ := by omega
                have hiT : i < nt := by omega
                refine reg_begin (Kp nob w) (by kernel_rfl) HS.out (fun _ => ?_)
                refine reg_take (v := .pointer (some ⟨v, 0, none⟩)) 0 (some 98) rfl rfl (by kernel_rfl) (by kernel_rfl) (by kernel_rfl) (by rfl) HS.out (fun w hw => by go_simp) ?_
                simp only [Act.put, List.setIfInBounds_toArray, List.set_cons_zero, List.set_cons_succ]
                refine reg_take (v := .pointer (some ⟨v, 0, none⟩)) 1 (some 99) rfl rfl (by kernel_rfl) (by kernel_rfl) (by kernel_rfl) (by rfl) HS.out (fun w hw => by go_simp) ?_
                simp only [Act.put, List.setIfInBounds_toArray, List.set_cons_zero, List.set_cons_succ]
                refine reg_take (v := .int .i64 k) 2 (some 100) rfl rfl (by kernel_rfl) (by kernel_rfl) (by kernel_rfl) (by rfl) HS.out (fun w hw => by go_simp) ?_
                simp only [Act.put, List.setIfInBounds_toArray, List.set_cons_zero, List.set_cons_succ]
                refine reg_take (v := .slice (some ⟨bQ, oQ, none⟩) nQ cq) 5 (some 103) rfl rfl (by kernel_rfl) (by kernel_rfl) (by kernel_rfl) (by rfl) HS.out (fun w hw => by go_simp) ?_
                simp only [Act.put, List.setIfInBounds_toArray, List.set_cons_zero, List.set_cons_succ]
                refine reg_take (v := .int .i64 i) 6 (some 104) rfl rfl (by kernel_rfl) (by kernel_rfl) (by kernel_rfl) (by rfl) HS.out (fun w hw => by go_simp) ?_
                simp only [Act.put, List.setIfInBounds_toArray, List.set_cons_zero, List.set_cons_succ]
                refine reg_take (v := .pointer (some ⟨bQ, oQ + i, none⟩)) 7 (some 105) rfl rfl (by kernel_rfl) (by kernel_rfl) (by kernel_rfl) (by rfl) HS.out (fun w hw => by go_simp) ?_
                simp only [Act.put, List.setIfInBounds_toArray, List.set_cons_zero, List.set_cons_succ]
                refine reg_take (v := .int .i64 s) 8 (some 106) rfl rfl (by kernel_rfl) (by kernel_rfl) (by kernel_rfl) (by rfl) HS.out (fun w hw => by have hc := HCQ.out w hw; go_simp) ?_
                simp only [Act.put, List.setIfInBounds_toArray, List.set_cons_zero, List.set_cons_succ]
                refine reg_take (v := .slice (some ⟨bT, oT, none⟩) nt ct) 9 (some 107) rfl rfl (by kernel_rfl) (by kernel_rfl) (by kernel_rfl) (by rfl) HS.out (fun w hw => by go_simp) ?_
                simp only [Act.put, List.setIfInBounds_toArray, List.set_cons_zero, List.set_cons_succ]
                refine reg_take (v := .int .i64 i) 10 (some 108) rfl rfl (by kernel_rfl) (by kernel_rfl) (by kernel_rfl) (by rfl) HS.out (fun w hw => by go_simp) ?_
                simp only [Act.put, List.setIfInBounds_toArray, List.set_cons_zero, List.set_cons_succ]
                refine reg_take (v := .pointer (some ⟨bT, oT + i, none⟩)) 11 (some 109) rfl rfl (by kernel_rfl) (by kernel_rfl) (by kernel_rfl) (by rfl) HS.out (fun w hw => by go_simp) ?_
                simp only [Act.put, List.setIfInBounds_toArray, List.set_cons_zero, List.set_cons_succ]
                refine reg_take (v := .string (str x)) 12 (some 110) rfl rfl (by kernel_rfl) (by kernel_rfl) (by kernel_rfl) (by rfl) HS.out (fun w hw => by have hc := HCT.out w hw; go_simp) ?_
                simp only [Act.put, List.setIfInBounds_toArray, List.set_cons_zero, List.set_cons_succ]
                obtain ⟨wd, hwd⟩ : ∃ wd, wd = wz.drew := ⟨_, rfl⟩
                rw [← hwd] at HS HRD0 ⊢
                clear hwd
                obtain ⟨cc, wc, hr, kc, zs, hac⟩ := str_arg (P := Try.prog) wd 9 29 5 x (by unfold maxLen; omega) (by kernel_rfl) u8n_under u8v
                have HKC := Lib.hid kc
                have HAC := Lib.hid hac
                have HZC := Lib.hid zs
                have HCO := Lib.hid hr
                have hul : ∀ j, uF F v m j → j < wd.heap.size := fun j h => h.elim (HRD0.out.iw.lt j) (fun h => h.elim (fun h => h ▸ HRD0.out.vs.b.b.lt) (fun h => h ▸ HRD0.out.vs.b.s.lt))
                have HUL := Lib.hid hul
                clear hr kc zs hac hul
                refine reg_stepOr (wi := wd.alloc (.cells #[.int .i64 k] 3)) (v := .slice (some ⟨wd.heap.size, 0, none⟩) 1 1) (wj := wc) (u := .slice (some ⟨wd.heap.size, 0, none⟩) x.length cc) 3 13 (some 101) (some 111) rfl rfl rfl rfl (by kernel_rfl) (by rfl) (by rfl) (by first | kernel_rfl | (go_simp; rfl)) (exec_conv _ _ _ rfl _ rfl HCO.out) (HS.out.alloc _) (HS.out.trans HKC.out (fun _ e => e.elim)) (fun _ => ?_) (fun _ => ?_)
                · have k1 := (Kp.refl nob wd).alloc (.cells #[.int .i64 k] 3)
                  have HROW : Hid (Row (wd.alloc (.cells #[.int .i64 k] 3)) (some ⟨wd.heap.size, 0, none⟩) (ivs [k])) := Lib.hid (row_one wd _ _)
                  have HGL : Hid (wd.heap.size < (wd.alloc (.cells #[.int .i64 k] 3)).heap.size) := Lib.hid (by simp)
                  have HSA : Hid (Kp nob w (wd.alloc (.cells #[.int .i64 k] 3))) := Lib.hid (HS.out.alloc _)
                  have HRD1 := Lib.hid (HRD0.out.keep k1)
                  generalize wd.alloc (.cells #[.int .i64 k] 3) = wa at *
                  have HULa : Hid (∀ j, uF F v m j → j < wa.heap.size) := Lib.hid (fun j h => h.elim (HRD1.out.iw.lt j) (fun h => h.elim (fun h => h ▸ HRD1.out.vs.b.b.lt) (fun h => h ▸ HRD1.out.vs.b.s.lt)))
                  obtain ⟨c2, wc2, hr, kc, zs, hac⟩ := str_arg (P := Try.prog) wa 9 29 5 x (by unfold maxLen; omega) (by kernel_rfl) u8n_under u8v
                  have HKC2 := Lib.hid kc
                  have HAC2 := Lib.hid hac
                  have HCO2 := Lib.hid hr
                  clear hr kc zs hac k1 HKC HAC HZC HCO HUL
                  simp only [Act.put, List.setIfInBounds_toArray, List.set_cons_zero, List.set_cons_succ]
                  refine reg_callOr (w' := wc2) (v := .slice (some ⟨wa.heap.size, 0, none⟩) x.length c2) 4 13 (some 102) (some 111) rfl rfl rfl rfl (by kernel_rfl) (by rfl) (by rfl) _ _ (exec_func 13 _ _ [.pointer (some ⟨v, 0, none⟩), .string kS, .slice (some ⟨wd.heap.size, 0, none⟩) 1 1] rfl (by kernel_rfl) rfl) (exec_conv _ _ _ rfl _ rfl HCO2.out) (HSA.out.trans HKC2.out (fun _ e => e.elim)) ?_ (fun _ => ?_)
                  · have HIA := Lib.hid HRD1.out.iw; have HVA := Lib.hid HRD1.out.vs
                    refine (key_i v m p F ts z32 100 _ cl kS (some ⟨wd.heap.size, 0, none⟩) 1 1 [k] wa HVA.out.b HIA.out HRX.out.ne rfl HROW.out (fun j e => by simp only [ab, Option.map_some, Option.some.injEq] at e; have := HGL.out; omega) (by have := HRX.out.cs.n; omega) (by decide) (by omega)).mono ?_
                    rintro e wk ⟨F2, rfl, hq⟩
                    have HIW0 := Lib.hid hq.i
                    have HKK := Lib.hid hq.k
                    have HF2 : Hid (∀ j, F2 j → w.heap.size ≤ j) := Lib.hid (fun j e => (hq.f j e).elim (HRX.out.f j) (fun e => Nat.le_trans HSA.out.size e))
                    have HFF : Hid (∀ j, F2 j → F j ∨ (wa).heap.size ≤ j) := Lib.hid hq.f
                    have HNE2 : Hid (¬ F2 v ∧ ¬ F2 m) := Lib.hid ⟨fun e => (hq.f v e).elim HRX.out.ne.1 (fun e => by have := HVA.out.b.b.lt; omega), fun e => (hq.f m e).elim HRX.out.ne.2 (fun e => by have := HVA.out.b.s.lt; omega)⟩
                    have HVK := Lib.hid (HVA.out.turn hq.k HRX.out.ne.1 HRX.out.ne.2 hq.f)
                    have HKW : Hid (Kp nob w wk) := Lib.hid (HSA.out.since hq.k HRX.out.f)
                    clear hq
                    refine ⟨_, rfl, HKW.out, fun _ => ?_⟩
                    simp only [Act.put, List.setIfInBounds_toArray, List.set_cons_zero, List.set_cons_succ]
                    obtain ⟨cc, wc3, hr, kc3, zs, hac⟩ := str_arg (P := Try.prog) wk 9 29 5 x (by unfold maxLen; omega) (by kernel_rfl) u8n_under u8v
                    have HK9 : Hid (Kp nob w wc3) := Lib.hid (HKW.out.trans kc3 (fun _ e => e.elim))
                    have HARG := Lib.hid (hac (uF F2 v m) (fun j h => h.elim (HIW0.out.lt j) (fun h => h.elim (fun h => h ▸ HVK.out.b.b.lt) (fun h => h ▸ HVK.out.b.s.lt))))
                    have HIW := Lib.hid (HIW0.out.keep kc3 (fun _ _ e => e))
                    have HVS := Lib.hid (HVK.out.keep0 kc3)
                    refine reg_step (w' := wc3) (v := .slice (some ⟨wk.heap.size, 0, none⟩) x.length cc) 13 (some 111) rfl rfl (by kernel_rfl) (by rfl) (exec_conv _ _ _ rfl _ rfl hr) HK9.out (fun _ => ?_)
                    simp only [Act.put, List.setIfInBounds_toArray, List.set_cons_zero, List.set_cons_succ]
                    clear hr kc3 zs hac
                    have hu0 : refu 100 1 s = 0 := by unfold refu; rw [if_neg (by omega), if_neg (by omega)]
                    have hts := HRX.out.cs.n
                    have hmk := Ideal.mk_length_le ts (K k)
                    refine reg_call 14 (some 112) rfl rfl (by kernel_rfl) (by rfl) _ _ (exec_func 9 _ _ [.pointer (some ⟨v, 0, none⟩), .agg (bvs (Kt ts k)).toArray, .int .i64 1, .int .i64 s, .slice (some ⟨wk.heap.size, 0, none⟩) x.length cc, .slice none 0 0] rfl (by kernel_rfl) rfl) ?_
                    refine (seal_yes dife Z HN.out v m p F2 (mk ts (K k)) z32 100 sl cl (Kt ts k) (Kt_length ts k) 1 s _ x.length cc x none 0 0 [] wc3 HVS.out HIW.out HNE2.out HARG.out (args_none _ _) (by omega) (by omega) (by decide) (by have := HRX.out.n; omega) hu0
                      (fun w' h => HZ.out w' (HK9.out.since h HF2.out))).mono ?_
                    rintro e w10 ⟨F3, X, cX, rfl, hs⟩
                    have HSD := Lib.hid hs
                    have HK10 : Hid (Kp nob w w10) := Lib.hid (HK9.out.since hs.kp (fun i e => e.elim (HF2.out i) (fun e => e.elim (fun e => e ▸ HRX.out.lt.1) (fun e => e ▸ HRX.out.lt.2))))
                    have hcl : cl + clash dife sl (pl (Kt ts k) (nonce 1 s) (Kt_length ts k) (nonce_length 1 s)) x = cl := by
                      have h1 := HRX.out.cs.last (by omega) k s (List.mem_of_getElem? HX.out.2.1) ⟨by omega, by omega⟩ (pl (Kt ts k) (nonce 1 s) (Kt_length ts k) (nonce_length 1 s)) rfl
                      have h2 : clash dife sl (pl (Kt ts k) (nonce 1 s) (Kt_length ts k) (nonce_length 1 s)) x = more dife (prev ks qs xs i k s) x := by rw [clash, h1]; rfl
                      rw [h2]; exact HCW.out.symm
                    have hrd : Rd ks qs xs w w10 v m p (i + 1) cl (mk (mk ts (K k)) (sealT (Kt ts k) (nonce 1 s) (catP []) x)) F3 (upd sl (pl (Kt ts k) (nonce 1 s) (Kt_length ts k) (nonce_length 1 s)) x) :=
                      ⟨HRX.out.cs.step (by omega) k s x HX.out.2.1 HX.out.2.2 HX.out.1 ⟨by omega, by omega⟩ HI.out _ rfl _ rfl, hs.iw, by have := hs.vs; rw [hcl] at this; exact this, hs.ne, fun j e => (hs.f j e).elim (HF2.out j) (fun e => Nat.le_trans HK9.out.size e), HRX.out.lt, HK10.out, by have := HCW.out; have := HRX.out.n; have : more dife (prev ks qs xs i k s) x ≤ 1 := more_le _ _ _; omega⟩
                    have HRD := Lib.hid hrd
                    clear hs hrd hcl hu0 hts hmk
                    refine ⟨_, rfl, HK10.out, fun _ => ?_⟩
                    simp only [Act.put, List.setIfInBounds_toArray, List.set_cons_zero, List.set_cons_succ]
                    refine reg_take (v := .tuple #[.slice X (x.length + 16) cX, .int .i64 0]) 15 (some 97) rfl rfl (by kernel_rfl) (by kernel_rfl) (by kernel_rfl) (by rfl) HK10.out (fun w hw => by go_simp) ?_
                    simp only [Act.put, List.setIfInBounds_toArray, List.set_cons_zero, List.set_cons_succ]
                    refine reg_take (v := .slice X (x.length + 16) cX) 16 (some 113) rfl rfl (by kernel_rfl) (by kernel_rfl) (by kernel_rfl) (by rfl) HK10.out (fun w hw => by go_simp) ?_
                    simp only [Act.put, List.setIfInBounds_toArray, List.set_cons_zero, List.set_cons_succ]
                    refine reg_take (v := .int .i64 0) 17 (some 114) rfl rfl (by kernel_rfl) (by kernel_rfl) (by kernel_rfl) (by rfl) HK10.out (fun w hw => by go_simp) ?_
                    simp only [Act.put, List.setIfInBounds_toArray, List.set_cons_zero, List.set_cons_succ]
                    refine reg_take (v := .slice X (x.length + 16) cX) 18 (some 12) rfl rfl (by kernel_rfl) (by kernel_rfl) (by kernel_rfl) (by rfl) HK10.out (fun w hw => by go_simp) ?_
                    simp only [Act.put, List.setIfInBounds_toArray, List.set_cons_zero, List.set_cons_succ]
                    refine reg_take (v := .int .i64 0) 19 (some 13) rfl rfl (by kernel_rfl) (by kernel_rfl) (by kernel_rfl) (by rfl) HK10.out (fun w hw => by go_simp) ?_
                    simp only [Act.put, List.setIfInBounds_toArray, List.set_cons_zero, List.set_cons_succ]
                    refine reg_end (by kernel_rfl) ?_
                    have HCC := Lib.hid (clashes_any v m (imk p) z32 100 _ _ w10 HRD.out.vs.b)
                    go_wp2_with (first
                      | (go_at_call 12; refine HCC.out.mono ?_; rintro e w11 ⟨rfl, rfl⟩)
                      | fail)
                    exact ⟨⟨i + 1, cl, _, F3, _, by omega, by go_num, rfl, HRD.out⟩, by simp [intOf]; omega⟩
                  · simp only [Act.put, List.setIfInBounds_toArray, List.set_cons_zero, List.set_cons_succ]
                    have HSB : Hid (Kp nob w wc2) := Lib.hid (HSA.out.trans HKC2.out (fun _ e => e.elim))
                    have HRD2 := Lib.hid (HRD1.out.keep HKC2.out)
                    have HIA := Lib.hid HRD2.out.iw; have HVA := Lib.hid HRD2.out.vs
                    have hgl := Nat.lt_of_lt_of_le HGL.out HKC2.out.size
                    have hrow := HROW.out.keep0 HKC2.out
                    clear HGL HROW
                    have HGL := Lib.hid hgl; have HROW := Lib.hid hrow
                    clear hgl hrow
                    have HA2 := Lib.hid (HAC2.out (uF F v m) HULa.out)
                    refine reg_call 4 (some 102) rfl rfl (by kernel_rfl) (by rfl) _ _ (exec_func 13 _ _ [.pointer (some ⟨v, 0, none⟩), .string kS, .slice (some ⟨wd.heap.size, 0, none⟩) 1 1] rfl (by kernel_rfl) rfl) ?_
                    refine (key_i v m p F ts z32 100 _ cl kS (some ⟨wd.heap.size, 0, none⟩) 1 1 [k] wc2 HVA.out.b HIA.out HRX.out.ne rfl HROW.out (fun j e => by simp only [ab, Option.map_some, Option.some.injEq] at e; have := HGL.out; omega) (by have := HRX.out.cs.n; omega) (by decide) (by omega)).mono ?_
                    rintro e wk ⟨F2, rfl, hq⟩
                    have HIW0 := Lib.hid hq.i
                    have HKK := Lib.hid hq.k
                    have HF2 : Hid (∀ j, F2 j → w.heap.size ≤ j) := Lib.hid (fun j e => (hq.f j e).elim (HRX.out.f j) (fun e => Nat.le_trans HSB.out.size e))
                    have HFF : Hid (∀ j, F2 j → F j ∨ (wc2).heap.size ≤ j) := Lib.hid hq.f
                    have HNE2 : Hid (¬ F2 v ∧ ¬ F2 m) := Lib.hid ⟨fun e => (hq.f v e).elim HRX.out.ne.1 (fun e => by have := HVA.out.b.b.lt; omega), fun e => (hq.f m e).elim HRX.out.ne.2 (fun e => by have := HVA.out.b.s.lt; omega)⟩
                    have HVK := Lib.hid (HVA.out.turn hq.k HRX.out.ne.1 HRX.out.ne.2 hq.f)
                    have HKW : Hid (Kp nob w wk) := Lib.hid (HSB.out.since hq.k HRX.out.f)
                    clear hq
                    refine ⟨_, rfl, HKW.out, fun _ => ?_⟩
                    simp only [Act.put, List.setIfInBounds_toArray, List.set_cons_zero, List.set_cons_succ]
                    have HARG0 := Lib.hid (arg_later (F2 := uF F2 v m) HA2.out HKK.out (fun j e => .inl e) (fun j e => e.elim (fun e => (HFF.out j e).imp_left .inl) (fun e => .inl (.inr e))))
                    have HIW := HIW0; have HVS := HVK; have HK9 := HKW
                    obtain ⟨cc, hcc⟩ : ∃ cc, cc = c2 := ⟨_, rfl⟩
                    rw [← hcc] at HARG0 ⊢
                    have HARG := HARG0
                    clear hcc HARG0
                    have hu0 : refu 100 1 s = 0 := by unfold refu; rw [if_neg (by omega), if_neg (by omega)]
                    have hts := HRX.out.cs.n
                    have hmk := Ideal.mk_length_le ts (K k)
                    refine reg_call 14 (some 112) rfl rfl (by kernel_rfl) (by rfl) _ _ (exec_func 9 _ _ [.pointer (some ⟨v, 0, none⟩), .agg (bvs (Kt ts k)).toArray, .int .i64 1, .int .i64 s, .slice (some ⟨wa.heap.size, 0, none⟩) x.length cc, .slice none 0 0] rfl (by kernel_rfl) rfl) ?_
                    refine (seal_yes dife Z HN.out v m p F2 (mk ts (K k)) z32 100 sl cl (Kt ts k) (Kt_length ts k) 1 s _ x.length cc x none 0 0 [] wk HVS.out HIW.out HNE2.out HARG.out (args_none _ _) (by omega) (by omega) (by decide) (by have := HRX.out.n; omega) hu0
                      (fun w' h => HZ.out w' (HK9.out.since h HF2.out))).mono ?_
                    rintro e w10 ⟨F3, X, cX, rfl, hs⟩
                    have HSD := Lib.hid hs
                    have HK10 : Hid (Kp nob w w10) := Lib.hid (HK9.out.since hs.kp (fun i e => e.elim (HF2.out i) (fun e => e.elim (fun e => e ▸ HRX.out.lt.1) (fun e => e ▸ HRX.out.lt.2))))
                    have hcl : cl + clash dife sl (pl (Kt ts k) (nonce 1 s) (Kt_length ts k) (nonce_length 1 s)) x = cl := by
                      have h1 := HRX.out.cs.last (by omega) k s (List.mem_of_getElem? HX.out.2.1) ⟨by omega, by omega⟩ (pl (Kt ts k) (nonce 1 s) (Kt_length ts k) (nonce_length 1 s)) rfl
                      have h2 : clash dife sl (pl (Kt ts k) (nonce 1 s) (Kt_length ts k) (nonce_length 1 s)) x = more dife (prev ks qs xs i k s) x := by rw [clash, h1]; rfl
                      rw [h2]; exact HCW.out.symm
                    have hrd : Rd ks qs xs w w10 v m p (i + 1) cl (mk (mk ts (K k)) (sealT (Kt ts k) (nonce 1 s) (catP []) x)) F3 (upd sl (pl (Kt ts k) (nonce 1 s) (Kt_length ts k) (nonce_length 1 s)) x) :=
                      ⟨HRX.out.cs.step (by omega) k s x HX.out.2.1 HX.out.2.2 HX.out.1 ⟨by omega, by omega⟩ HI.out _ rfl _ rfl, hs.iw, by have := hs.vs; rw [hcl] at this; exact this, hs.ne, fun j e => (hs.f j e).elim (HF2.out j) (fun e => Nat.le_trans HK9.out.size e), HRX.out.lt, HK10.out, by have := HCW.out; have := HRX.out.n; have : more dife (prev ks qs xs i k s) x ≤ 1 := more_le _ _ _; omega⟩
                    have HRD := Lib.hid hrd
                    clear hs hrd hcl hu0 hts hmk
                    refine ⟨_, rfl, HK10.out, fun _ => ?_⟩
                    simp only [Act.put, List.setIfInBounds_toArray, List.set_cons_zero, List.set_cons_succ]
                    refine reg_take (v := .tuple #[.slice X (x.length + 16) cX, .int .i64 0]) 15 (some 97) rfl rfl (by kernel_rfl) (by kernel_rfl) (by kernel_rfl) (by rfl) HK10.out (fun w hw => by go_simp) ?_
                    simp only [Act.put, List.setIfInBounds_toArray, List.set_cons_zero, List.set_cons_succ]
                    refine reg_take (v := .slice X (x.length + 16) cX) 16 (some 113) rfl rfl (by kernel_rfl) (by kernel_rfl) (by kernel_rfl) (by rfl) HK10.out (fun w hw => by go_simp) ?_
                    simp only [Act.put, List.setIfInBounds_toArray, List.set_cons_zero, List.set_cons_succ]
                    refine reg_take (v := .int .i64 0) 17 (some 114) rfl rfl (by kernel_rfl) (by kernel_rfl) (by kernel_rfl) (by rfl) HK10.out (fun w hw => by go_simp) ?_
                    simp only [Act.put, List.setIfInBounds_toArray, List.set_cons_zero, List.set_cons_succ]
                    refine reg_take (v := .slice X (x.length + 16) cX) 18 (some 12) rfl rfl (by kernel_rfl) (by kernel_rfl) (by kernel_rfl) (by rfl) HK10.out (fun w hw => by go_simp) ?_
                    simp only [Act.put, List.setIfInBounds_toArray, List.set_cons_zero, List.set_cons_succ]
                    refine reg_take (v := .int .i64 0) 19 (some 13) rfl rfl (by kernel_rfl) (by kernel_rfl) (by kernel_rfl) (by rfl) HK10.out (fun w hw => by go_simp) ?_
                    simp only [Act.put, List.setIfInBounds_toArray, List.set_cons_zero, List.set_cons_succ]
                    refine reg_end (by kernel_rfl) ?_
                    have HCC := Lib.hid (clashes_any v m (imk p) z32 100 _ _ w10 HRD.out.vs.b)
                    go_wp2_with (first
                      | (go_at_call 12; refine HCC.out.mono ?_; rintro e w11 ⟨rfl, rfl⟩)
                      | fail)
                    exact ⟨⟨i + 1, cl, _, F3, _, by omega, by go_num, rfl, HRD.out⟩, by simp [intOf]; omega⟩
                · simp only [Act.put, List.setIfInBounds_toArray, List.set_cons_zero, List.set_cons_succ]
                  have HSA : Hid (Kp nob w (wc.alloc (.cells #[.int .i64 k] 3))) := Lib.hid ((HS.out.trans HKC.out (fun _ e => e.elim)).alloc _)
                  have k1 := (Kp.refl nob wc).alloc (.cells #[.int .i64 k] 3)
                  have HROW : Hid (Row (wc.alloc (.cells #[.int .i64 k] 3)) (some ⟨wc.heap.size, 0, none⟩) (ivs [k])) := Lib.hid (row_one wc _ _)
                  have HGL : Hid (wc.heap.size < (wc.alloc (.cells #[.int .i64 k] 3)).heap.size) := Lib.hid (by simp)
                  have HA2 := Lib.hid ((HAC.out (uF F v m) HUL.out).keep0 k1)
                  have HRD1 := Lib.hid (HRD0.out.keep (HKC.out.trans k1 (fun _ e => e.elim)))
                  refine reg_step (w' := wc.alloc (.cells #[.int .i64 k] 3)) (v := .slice (some ⟨wc.heap.size, 0, none⟩) 1 1) 3 (some 101) rfl rfl (by kernel_rfl) (by rfl) (by first | kernel_rfl | (go_simp; rfl)) HSA.out (fun _ => ?_)
                  simp only [Act.put, List.setIfInBounds_toArray, List.set_cons_zero, List.set_cons_succ]
                  generalize wc.alloc (.cells #[.int .i64 k] 3) = wa at *
                  have HIA := Lib.hid HRD1.out.iw; have HVA := Lib.hid HRD1.out.vs
                  clear k1 HKC HAC HZC HCO HUL
                  refine reg_call 4 (some 102) rfl rfl (by kernel_rfl) (by rfl) _ _ (exec_func 13 _ _ [.pointer (some ⟨v, 0, none⟩), .string kS, .slice (some ⟨wc.heap.size, 0, none⟩) 1 1] rfl (by kernel_rfl) rfl) ?_
                  refine (key_i v m p F ts z32 100 _ cl kS (some ⟨wc.heap.size, 0, none⟩) 1 1 [k] wa HVA.out.b HIA.out HRX.out.ne rfl HROW.out (fun j e => by simp only [ab, Option.map_some, Option.some.injEq] at e; have := HGL.out; omega) (by have := HRX.out.cs.n; omega) (by decide) (by omega)).mono ?_
                  rintro e wk ⟨F2, rfl, hq⟩
                  have HIW0 := Lib.hid hq.i
                  have HKK := Lib.hid hq.k
                  have HF2 : Hid (∀ j, F2 j → w.heap.size ≤ j) := Lib.hid (fun j e => (hq.f j e).elim (HRX.out.f j) (fun e => Nat.le_trans HSA.out.size e))
                  have HFF : Hid (∀ j, F2 j → F j ∨ (wa).heap.size ≤ j) := Lib.hid hq.f
                  have HNE2 : Hid (¬ F2 v ∧ ¬ F2 m) := Lib.hid ⟨fun e => (hq.f v e).elim HRX.out.ne.1 (fun e => by have := HVA.out.b.b.lt; omega), fun e => (hq.f m e).elim HRX.out.ne.2 (fun e => by have := HVA.out.b.s.lt; omega)⟩
                  have HVK := Lib.hid (HVA.out.turn hq.k HRX.out.ne.1 HRX.out.ne.2 hq.f)
                  have HKW : Hid (Kp nob w wk) := Lib.hid (HSA.out.since hq.k HRX.out.f)
                  clear hq
                  refine ⟨_, rfl, HKW.out, fun _ => ?_⟩
                  simp only [Act.put, List.setIfInBounds_toArray, List.set_cons_zero, List.set_cons_succ]
                  have HARG := Lib.hid (arg_later (F2 := uF F2 v m) HA2.out HKK.out (fun j e => .inl e) (fun j e => e.elim (fun e => (HFF.out j e).imp_left .inl) (fun e => .inl (.inr e))))
                  have HIW := HIW0; have HVS := HVK; have HK9 := HKW
                  have hu0 : refu 100 1 s = 0 := by unfold refu; rw [if_neg (by omega), if_neg (by omega)]
                  have hts := HRX.out.cs.n
                  have hmk := Ideal.mk_length_le ts (K k)
                  refine reg_call 14 (some 112) rfl rfl (by kernel_rfl) (by rfl) _ _ (exec_func 9 _ _ [.pointer (some ⟨v, 0, none⟩), .agg (bvs (Kt ts k)).toArray, .int .i64 1, .int .i64 s, .slice (some ⟨wd.heap.size, 0, none⟩) x.length cc, .slice none 0 0] rfl (by kernel_rfl) rfl) ?_
                  refine (seal_yes dife Z HN.out v m p F2 (mk ts (K k)) z32 100 sl cl (Kt ts k) (Kt_length ts k) 1 s _ x.length cc x none 0 0 [] wk HVS.out HIW.out HNE2.out HARG.out (args_none _ _) (by omega) (by omega) (by decide) (by have := HRX.out.n; omega) hu0
                    (fun w' h => HZ.out w' (HK9.out.since h HF2.out))).mono ?_
                  rintro e w10 ⟨F3, X, cX, rfl, hs⟩
                  have HSD := Lib.hid hs
                  have HK10 : Hid (Kp nob w w10) := Lib.hid (HK9.out.since hs.kp (fun i e => e.elim (HF2.out i) (fun e => e.elim (fun e => e ▸ HRX.out.lt.1) (fun e => e ▸ HRX.out.lt.2))))
                  have hcl : cl + clash dife sl (pl (Kt ts k) (nonce 1 s) (Kt_length ts k) (nonce_length 1 s)) x = cl := by
                    have h1 := HRX.out.cs.last (by omega) k s (List.mem_of_getElem? HX.out.2.1) ⟨by omega, by omega⟩ (pl (Kt ts k) (nonce 1 s) (Kt_length ts k) (nonce_length 1 s)) rfl
                    have h2 : clash dife sl (pl (Kt ts k) (nonce 1 s) (Kt_length ts k) (nonce_length 1 s)) x = more dife (prev ks qs xs i k s) x := by rw [clash, h1]; rfl
                    rw [h2]; exact HCW.out.symm
                  have hrd : Rd ks qs xs w w10 v m p (i + 1) cl (mk (mk ts (K k)) (sealT (Kt ts k) (nonce 1 s) (catP []) x)) F3 (upd sl (pl (Kt ts k) (nonce 1 s) (Kt_length ts k) (nonce_length 1 s)) x) :=
                    ⟨HRX.out.cs.step (by omega) k s x HX.out.2.1 HX.out.2.2 HX.out.1 ⟨by omega, by omega⟩ HI.out _ rfl _ rfl, hs.iw, by have := hs.vs; rw [hcl] at this; exact this, hs.ne, fun j e => (hs.f j e).elim (HF2.out j) (fun e => Nat.le_trans HK9.out.size e), HRX.out.lt, HK10.out, by have := HCW.out; have := HRX.out.n; have : more dife (prev ks qs xs i k s) x ≤ 1 := more_le _ _ _; omega⟩
                  have HRD := Lib.hid hrd
                  clear hs hrd hcl hu0 hts hmk
                  refine ⟨_, rfl, HK10.out, fun _ => ?_⟩
                  simp only [Act.put, List.setIfInBounds_toArray, List.set_cons_zero, List.set_cons_succ]
                  refine reg_take (v := .tuple #[.slice X (x.length + 16) cX, .int .i64 0]) 15 (some 97) rfl rfl (by kernel_rfl) (by kernel_rfl) (by kernel_rfl) (by rfl) HK10.out (fun w hw => by go_simp) ?_
                  simp only [Act.put, List.setIfInBounds_toArray, List.set_cons_zero, List.set_cons_succ]
                  refine reg_take (v := .slice X (x.length + 16) cX) 16 (some 113) rfl rfl (by kernel_rfl) (by kernel_rfl) (by kernel_rfl) (by rfl) HK10.out (fun w hw => by go_simp) ?_
                  simp only [Act.put, List.setIfInBounds_toArray, List.set_cons_zero, List.set_cons_succ]
                  refine reg_take (v := .int .i64 0) 17 (some 114) rfl rfl (by kernel_rfl) (by kernel_rfl) (by kernel_rfl) (by rfl) HK10.out (fun w hw => by go_simp) ?_
                  simp only [Act.put, List.setIfInBounds_toArray, List.set_cons_zero, List.set_cons_succ]
                  refine reg_take (v := .slice X (x.length + 16) cX) 18 (some 12) rfl rfl (by kernel_rfl) (by kernel_rfl) (by kernel_rfl) (by rfl) HK10.out (fun w hw => by go_simp) ?_
                  simp only [Act.put, List.setIfInBounds_toArray, List.set_cons_zero, List.set_cons_succ]
                  refine reg_take (v := .int .i64 0) 19 (some 13) rfl rfl (by kernel_rfl) (by kernel_rfl) (by kernel_rfl) (by rfl) HK10.out (fun w hw => by go_simp) ?_
                  simp only [Act.put, List.setIfInBounds_toArray, List.set_cons_zero, List.set_cons_succ]
                  refine reg_end (by kernel_rfl) ?_
                  have HCC := Lib.hid (clashes_any v m (imk p) z32 100 _ _ w10 HRD.out.vs.b)
                  go_wp2_with (first
                    | (go_at_call 12; refine HCC.out.mono ?_; rintro e w11 ⟨rfl, rfl⟩)
                    | fail)
                  exact ⟨⟨i + 1, cl, _, F3, _, by omega, by go_num, rfl, HRD.out⟩, by simp [intOf]; omega⟩
              case neg =>
                obtain ⟨q, rfl⟩ : ∃ q, j = q + 1 := ⟨j - 1, by omega⟩
                have ek : (((q + 1 : Nat) : Int) - 1) = (q : Int) := by omega
                rw [ek]
                have e2 : IntKind.i64.wrap ((q : Int) - 1) = (q : Int) - 1 := by rw [IntKind.wrap_i64]; omega
                obtain ⟨x2, hx2⟩ : ∃ y, xs[q]? = some y := ⟨_, List.getElem?_eq_getElem (by rw [HL.out.2.2]; omega)⟩
                obtain ⟨k2, hk2⟩ : ∃ y, ks[q]? = some y := ⟨_, List.getElem?_eq_getElem (by rw [HL.out.1]; omega)⟩
                obtain ⟨s2, hs2⟩ : ∃ y, qs[q]? = some y := ⟨_, List.getElem?_eq_getElem (by rw [HL.out.2.1]; omega)⟩
                have HX2 := Lib.hid (And.intro hx2 (And.intro hk2 hs2))
                obtain ⟨b1, o1, hA1, hB1, hc1⟩ := int_at (R1.out.keep0 HRX.out.k) q k2 hk2
                obtain ⟨b2, o2, hA2, hB2, hc2⟩ := int_at (R2.out.keep0 HRX.out.k) q s2 hs2
                obtain ⟨b3, o3, hA3, hB3, hc3⟩ := int_at (R2.out.keep0 HRX.out.k) i s HX.out.2.2
                obtain ⟨b4, o4, hA4, hB4, hc4⟩ := text_at (R3.out.keep0 HRX.out.k) q x2 hx2
                obtain ⟨b5, o5, hA5, hB5, hc5⟩ := text_at (R3.out.keep0 HRX.out.k) i x HX.out.1
                cases hA1; cases hA2; cases hA3; cases hA4; cases hA5
                clear hx2 hk2 hs2 hB1 hB2 hB3 hB4 hB5 h0
                by_cases hke : k2 = k
                case neg =>
                  have kb : (k2 == k) = false := by simpa using hke
                  have HPN : Hid (prev ks qs xs i k s = prev ks qs xs q k s) := Lib.hid (by rw [HP.out, prev, if_neg (fun e => hke (by have h1 := e.1; rw [HX2.out.2.1] at h1; exact Option.some.inj h1))])
                  go_wp2
                  go_quiet (fail)
                  go_wp2
                  exact ⟨⟨q, by omega, rfl, rfl, HPN.out, HRX.out.keep ((Kp.refl nob _).drewN _)⟩, by simp [intOf]⟩
                case pos =>
                  by_cases hse : s2 = s
                  case neg =>
                    have kb : (s2 == s) = false := by simpa using hse
                    have HPN : Hid (prev ks qs xs i k s = prev ks qs xs q k s) := Lib.hid (by rw [HP.out, prev, if_neg (fun e => hse (by have h1 := e.2; rw [HX2.out.2.2] at h1; exact Option.some.inj h1))])
                    go_wp2
                    go_quiet (fail)
                    go_wp2
                    exact ⟨⟨q, by omega, rfl, rfl, HPN.out, HRX.out.keep ((Kp.refl nob _).drewN _)⟩, by simp [intOf]⟩
                  case pos =>
                    subst hke; subst hse
                    have HPY : Hid (prev ks qs xs i k2 s2 = some x2) := Lib.hid (by rw [HP.out, prev, if_pos ⟨HX2.out.2.1, HX2.out.2.2⟩, HX2.out.1])
                    clear HP
                    go_wp2
                    go_quiet (fail)
                    generalize hwq : World.drewN wr nq = wq
                    have HRQ := Lib.hid (HRX.out.keep (by rw [← hwq]; exact (Kp.refl nob _).drewN _ : Kp nob wr wq))
                    clear hwq hc1 hc2 hc3 hc4 hc5 HRX
                    have HRX := HRQ
                    clear HRQ
                    obtain ⟨b4, o4, hA4, hB4, hc4⟩ := text_at (R3.out.keep0 HRX.out.k) q x2 HX2.out.1
                    obtain ⟨b5, o5, hA5, hB5, hc5⟩ := text_at (R3.out.keep0 HRX.out.k) i x HX.out.1
                    cases hA4; cases hA5
                    clear hB4 hB5
                    by_cases hxe : x2 = x
                    case pos =>
                      have kb : ((str x2).toList == (str x).toList) = true := by rw [str_beq, hxe]; simp
                      have HCW : Hid (cl = cl + more dife (prev ks qs xs i k2 s2) x) := Lib.hid (by rw [HPY.out, more, dife, hxe]; simp)
                      go_wp2
                      go_quiet (fail)
                      generalize hwq : World.drewN wq nq = wz
                      have HRQ := Lib.hid (HRX.out.keep (by rw [← hwq]; exact (Kp.refl nob _).drewN _ : Kp nob wq wz))
                      clear hwq hc4 hc5 HRX kb
                      have HRX := HRQ
                      clear HRQ
                      go_wp2
                      have HCQ : Hid (∀ w', Kp nob w w' → w'.cell? ⟨bQ, oQ + i, none⟩ = some (.int .i64 s2)) := Lib.hid (fun w' h => by obtain ⟨b, o, hA, _, hc⟩ := int_at (R2.out.keep0 h) i s2 HX.out.2.2; cases hA; exact hc)
                      have HCT : Hid (∀ w', Kp nob w w' → w'.cell? ⟨bT, oT + i, none⟩ = some (.string (str x))) := Lib.hid (fun w' h => by obtain ⟨b, o, hA, _, hc⟩ := text_at (R3.out.keep0 h) i x HX.out.1; cases hA; exact hc)
                      have HS : Hid (Kp nob w wz.drew) := Lib.hid HRX.out.k.drew
                      have HRD0 := Lib.hid (HRX.out.keep (Kp.refl nob wz).drew)
                      have hiQ : i < nQ := by omega
                      have hiT : i < nt := by omega
                      refine reg_begin (Kp nob w) (by kernel_rfl) HS.out (fun _ => ?_)
                      refine reg_take (v := .pointer (some ⟨v, 0, none⟩)) 0 (some 98) rfl rfl (by kernel_rfl) (by kernel_rfl) (by kernel_rfl) (by rfl) HS.out (fun w hw => by go_simp) ?_
                      simp only [Act.put, List.setIfInBounds_toArray, List.set_cons_zero, List.set_cons_succ]
                      refine reg_take (v := .pointer (some ⟨v, 0, none⟩)) 1 (some 99) rfl rfl (by kernel_rfl) (by kernel_rfl) (by kernel_rfl) (by rfl) HS.out (fun w hw => by go_simp) ?_
                      simp only [Act.put, List.setIfInBounds_toArray, List.set_cons_zero, List.set_cons_succ]
                      refine reg_take (v := .int .i64 k2) 2 (some 100) rfl rfl (by kernel_rfl) (by kernel_rfl) (by kernel_rfl) (by rfl) HS.out (fun w hw => by go_simp) ?_
                      simp only [Act.put, List.setIfInBounds_toArray, List.set_cons_zero, List.set_cons_succ]
                      refine reg_take (v := .slice (some ⟨bQ, oQ, none⟩) nQ cq) 5 (some 103) rfl rfl (by kernel_rfl) (by kernel_rfl) (by kernel_rfl) (by rfl) HS.out (fun w hw => by go_simp) ?_
                      simp only [Act.put, List.setIfInBounds_toArray, List.set_cons_zero, List.set_cons_succ]
                      refine reg_take (v := .int .i64 i) 6 (some 104) rfl rfl (by kernel_rfl) (by kernel_rfl) (by kernel_rfl) (by rfl) HS.out (fun w hw => by go_simp) ?_
                      simp only [Act.put, List.setIfInBounds_toArray, List.set_cons_zero, List.set_cons_succ]
                      refine reg_take (v := .pointer (some ⟨bQ, oQ + i, none⟩)) 7 (some 105) rfl rfl (by kernel_rfl) (by kernel_rfl) (by kernel_rfl) (by rfl) HS.out (fun w hw => by go_simp) ?_
                      simp only [Act.put, List.setIfInBounds_toArray, List.set_cons_zero, List.set_cons_succ]
                      refine reg_take (v := .int .i64 s2) 8 (some 106) rfl rfl (by kernel_rfl) (by kernel_rfl) (by kernel_rfl) (by rfl) HS.out (fun w hw => by have hc := HCQ.out w hw; go_simp) ?_
                      simp only [Act.put, List.setIfInBounds_toArray, List.set_cons_zero, List.set_cons_succ]
                      refine reg_take (v := .slice (some ⟨bT, oT, none⟩) nt ct) 9 (some 107) rfl rfl (by kernel_rfl) (by kernel_rfl) (by kernel_rfl) (by rfl) HS.out (fun w hw => by go_simp) ?_
                      simp only [Act.put, List.setIfInBounds_toArray, List.set_cons_zero, List.set_cons_succ]
                      refine reg_take (v := .int .i64 i) 10 (some 108) rfl rfl (by kernel_rfl) (by kernel_rfl) (by kernel_rfl) (by rfl) HS.out (fun w hw => by go_simp) ?_
                      simp only [Act.put, List.setIfInBounds_toArray, List.set_cons_zero, List.set_cons_succ]
                      refine reg_take (v := .pointer (some ⟨bT, oT + i, none⟩)) 11 (some 109) rfl rfl (by kernel_rfl) (by kernel_rfl) (by kernel_rfl) (by rfl) HS.out (fun w hw => by go_simp) ?_
                      simp only [Act.put, List.setIfInBounds_toArray, List.set_cons_zero, List.set_cons_succ]
                      refine reg_take (v := .string (str x)) 12 (some 110) rfl rfl (by kernel_rfl) (by kernel_rfl) (by kernel_rfl) (by rfl) HS.out (fun w hw => by have hc := HCT.out w hw; go_simp) ?_
                      simp only [Act.put, List.setIfInBounds_toArray, List.set_cons_zero, List.set_cons_succ]
                      obtain ⟨wd, hwd⟩ : ∃ wd, wd = wz.drew := ⟨_, rfl⟩
                      rw [← hwd] at HS HRD0 ⊢
                      clear hwd
                      obtain ⟨cc, wc, hr, kc, zs, hac⟩ := str_arg (P := Try.prog) wd 9 29 5 x (by unfold maxLen; omega) (by kernel_rfl) u8n_under u8v
                      have HKC := Lib.hid kc
                      have HAC := Lib.hid hac
                      have HZC := Lib.hid zs
                      have HCO := Lib.hid hr
                      have hul : ∀ j, uF F v m j → j < wd.heap.size := fun j h => h.elim (HRD0.out.iw.lt j) (fun h => h.elim (fun h => h ▸ HRD0.out.vs.b.b.lt) (fun h => h ▸ HRD0.out.vs.b.s.lt))
                      have HUL := Lib.hid hul
                      clear hr kc zs hac hul
                      refine reg_stepOr (wi := wd.alloc (.cells #[.int .i64 k2] 3)) (v := .slice (some ⟨wd.heap.size, 0, none⟩) 1 1) (wj := wc) (u := .slice (some ⟨wd.heap.size, 0, none⟩) x.length cc) 3 13 (some 101) (some 111) rfl rfl rfl rfl (by kernel_rfl) (by rfl) (by rfl) (by first | kernel_rfl | (go_simp; rfl)) (exec_conv _ _ _ rfl _ rfl HCO.out) (HS.out.alloc _) (HS.out.trans HKC.out (fun _ e => e.elim)) (fun _ => ?_) (fun _ => ?_)
                      · have k1 := (Kp.refl nob wd).alloc (.cells #[.int .i64 k2] 3)
                        have HROW : Hid (Row (wd.alloc (.cells #[.int .i64 k2] 3)) (some ⟨wd.heap.size, 0, none⟩) (ivs [k2])) := Lib.hid (row_one wd _ _)
                        have HGL : Hid (wd.heap.size < (wd.alloc (.cells #[.int .i64 k2] 3)).heap.size) := Lib.hid (by simp)
                        have HSA : Hid (Kp nob w (wd.alloc (.cells #[.int .i64 k2] 3))) := Lib.hid (HS.out.alloc _)
                        have HRD1 := Lib.hid (HRD0.out.keep k1)
                        generalize wd.alloc (.cells #[.int .i64 k2] 3) = wa at *
                        have HULa : Hid (∀ j, uF F v m j → j < wa.heap.size) := Lib.hid (fun j h => h.elim (HRD1.out.iw.lt j) (fun h => h.elim (fun h => h ▸ HRD1.out.vs.b.b.lt) (fun h => h ▸ HRD1.out.vs.b.s.lt)))
                        obtain ⟨c2, wc2, hr, kc, zs, hac⟩ := str_arg (P := Try.prog) wa 9 29 5 x (by unfold maxLen; omega) (by kernel_rfl) u8n_under u8v
                        have HKC2 := Lib.hid kc
                        have HAC2 := Lib.hid hac
                        have HCO2 := Lib.hid hr
                        clear hr kc zs hac k1 HKC HAC HZC HCO HUL
                        simp only [Act.put, List.setIfInBounds_toArray, List.set_cons_zero, List.set_cons_succ]
                        refine reg_callOr (w' := wc2) (v := .slice (some ⟨wa.heap.size, 0, none⟩) x.length c2) 4 13 (some 102) (some 111) rfl rfl rfl rfl (by kernel_rfl) (by rfl) (by rfl) _ _ (exec_func 13 _ _ [.pointer (some ⟨v, 0, none⟩), .string kS, .slice (some ⟨wd.heap.size, 0, none⟩) 1 1] rfl (by kernel_rfl) rfl) (exec_conv _ _ _ rfl _ rfl HCO2.out) (HSA.out.trans HKC2.out (fun _ e => e.elim)) ?_ (fun _ => ?_)
                        · have HIA := Lib.hid HRD1.out.iw; have HVA := Lib.hid HRD1.out.vs
                          refine (key_i v m p F ts z32 100 _ cl kS (some ⟨wd.heap.size, 0, none⟩) 1 1 [k2] wa HVA.out.b HIA.out HRX.out.ne rfl HROW.out (fun j e => by simp only [ab, Option.map_some, Option.some.injEq] at e; have := HGL.out; omega) (by have := HRX.out.cs.n; omega) (by decide) (by omega)).mono ?_
                          rintro e wk ⟨F2, rfl, hq⟩
                          have HIW0 := Lib.hid hq.i
                          have HKK := Lib.hid hq.k
                          have HF2 : Hid (∀ j, F2 j → w.heap.size ≤ j) := Lib.hid (fun j e => (hq.f j e).elim (HRX.out.f j) (fun e => Nat.le_trans HSA.out.size e))
                          have HFF : Hid (∀ j, F2 j → F j ∨ (wa).heap.size ≤ j) := Lib.hid hq.f
                          have HNE2 : Hid (¬ F2 v ∧ ¬ F2 m) := Lib.hid ⟨fun e => (hq.f v e).elim HRX.out.ne.1 (fun e => by have := HVA.out.b.b.lt; omega), fun e => (hq.f m e).elim HRX.out.ne.2 (fun e => by have := HVA.out.b.s.lt; omega)⟩
                          have HVK := Lib.hid (HVA.out.turn hq.k HRX.out.ne.1 HRX.out.ne.2 hq.f)
                          have HKW : Hid (Kp nob w wk) := Lib.hid (HSA.out.since hq.k HRX.out.f)
                          clear hq
                          refine ⟨_, rfl, HKW.out, fun _ => ?_⟩
                          simp only [Act.put, List.setIfInBounds_toArray, List.set_cons_zero, List.set_cons_succ]
                          obtain ⟨cc, wc3, hr, kc3, zs, hac⟩ := str_arg (P := Try.prog) wk 9 29 5 x (by unfold maxLen; omega) (by kernel_rfl) u8n_under u8v
                          have HK9 : Hid (Kp nob w wc3) := Lib.hid (HKW.out.trans kc3 (fun _ e => e.elim))
                          have HARG := Lib.hid (hac (uF F2 v m) (fun j h => h.elim (HIW0.out.lt j) (fun h => h.elim (fun h => h ▸ HVK.out.b.b.lt) (fun h => h ▸ HVK.out.b.s.lt))))
                          have HIW := Lib.hid (HIW0.out.keep kc3 (fun _ _ e => e))
                          have HVS := Lib.hid (HVK.out.keep0 kc3)
                          refine reg_step (w' := wc3) (v := .slice (some ⟨wk.heap.size, 0, none⟩) x.length cc) 13 (some 111) rfl rfl (by kernel_rfl) (by rfl) (exec_conv _ _ _ rfl _ rfl hr) HK9.out (fun _ => ?_)
                          simp only [Act.put, List.setIfInBounds_toArray, List.set_cons_zero, List.set_cons_succ]
                          clear hr kc3 zs hac
                          have hu0 : refu 100 1 s2 = 0 := by unfold refu; rw [if_neg (by omega), if_neg (by omega)]
                          have hts := HRX.out.cs.n
                          have hmk := Ideal.mk_length_le ts (K k2)
                          refine reg_call 14 (some 112) rfl rfl (by kernel_rfl) (by rfl) _ _ (exec_func 9 _ _ [.pointer (some ⟨v, 0, none⟩), .agg (bvs (Kt ts k2)).toArray, .int .i64 1, .int .i64 s2, .slice (some ⟨wk.heap.size, 0, none⟩) x.length cc, .slice none 0 0] rfl (by kernel_rfl) rfl) ?_
                          refine (seal_yes dife Z HN.out v m p F2 (mk ts (K k2)) z32 100 sl cl (Kt ts k2) (Kt_length ts k2) 1 s2 _ x.length cc x none 0 0 [] wc3 HVS.out HIW.out HNE2.out HARG.out (args_none _ _) (by omega) (by omega) (by decide) (by have := HRX.out.n; omega) hu0
                            (fun w' h => HZ.out w' (HK9.out.since h HF2.out))).mono ?_
                          rintro e w10 ⟨F3, X, cX, rfl, hs⟩
                          have HSD := Lib.hid hs
                          have HK10 : Hid (Kp nob w w10) := Lib.hid (HK9.out.since hs.kp (fun i e => e.elim (HF2.out i) (fun e => e.elim (fun e => e ▸ HRX.out.lt.1) (fun e => e ▸ HRX.out.lt.2))))
                          have hcl : cl + clash dife sl (pl (Kt ts k2) (nonce 1 s2) (Kt_length ts k2) (nonce_length 1 s2)) x = cl := by
                            have h1 := HRX.out.cs.last (by omega) k2 s2 (List.mem_of_getElem? HX.out.2.1) ⟨by omega, by omega⟩ (pl (Kt ts k2) (nonce 1 s2) (Kt_length ts k2) (nonce_length 1 s2)) rfl
                            have h2 : clash dife sl (pl (Kt ts k2) (nonce 1 s2) (Kt_length ts k2) (nonce_length 1 s2)) x = more dife (prev ks qs xs i k2 s2) x := by rw [clash, h1]; rfl
                            rw [h2]; exact HCW.out.symm
                          have hrd : Rd ks qs xs w w10 v m p (i + 1) cl (mk (mk ts (K k2)) (sealT (Kt ts k2) (nonce 1 s2) (catP []) x)) F3 (upd sl (pl (Kt ts k2) (nonce 1 s2) (Kt_length ts k2) (nonce_length 1 s2)) x) :=
                            ⟨HRX.out.cs.step (by omega) k2 s2 x HX.out.2.1 HX.out.2.2 HX.out.1 ⟨by omega, by omega⟩ HI.out _ rfl _ rfl, hs.iw, by have := hs.vs; rw [hcl] at this; exact this, hs.ne, fun j e => (hs.f j e).elim (HF2.out j) (fun e => Nat.le_trans HK9.out.size e), HRX.out.lt, HK10.out, by have := HCW.out; have := HRX.out.n; have : more dife (prev ks qs xs i k2 s2) x ≤ 1 := more_le _ _ _; omega⟩
                          have HRD := Lib.hid hrd
                          clear hs hrd hcl hu0 hts hmk
                          refine ⟨_, rfl, HK10.out, fun _ => ?_⟩
                          simp only [Act.put, List.setIfInBounds_toArray, List.set_cons_zero, List.set_cons_succ]
                          refine reg_take (v := .tuple #[.slice X (x.length + 16) cX, .int .i64 0]) 15 (some 97) rfl rfl (by kernel_rfl) (by kernel_rfl) (by kernel_rfl) (by rfl) HK10.out (fun w hw => by go_simp) ?_
                          simp only [Act.put, List.setIfInBounds_toArray, List.set_cons_zero, List.set_cons_succ]
                          refine reg_take (v := .slice X (x.length + 16) cX) 16 (some 113) rfl rfl (by kernel_rfl) (by kernel_rfl) (by kernel_rfl) (by rfl) HK10.out (fun w hw => by go_simp) ?_
                          simp only [Act.put, List.setIfInBounds_toArray, List.set_cons_zero, List.set_cons_succ]
                          refine reg_take (v := .int .i64 0) 17 (some 114) rfl rfl (by kernel_rfl) (by kernel_rfl) (by kernel_rfl) (by rfl) HK10.out (fun w hw => by go_simp) ?_
                          simp only [Act.put, List.setIfInBounds_toArray, List.set_cons_zero, List.set_cons_succ]
                          refine reg_take (v := .slice X (x.length + 16) cX) 18 (some 12) rfl rfl (by kernel_rfl) (by kernel_rfl) (by kernel_rfl) (by rfl) HK10.out (fun w hw => by go_simp) ?_
                          simp only [Act.put, List.setIfInBounds_toArray, List.set_cons_zero, List.set_cons_succ]
                          refine reg_take (v := .int .i64 0) 19 (some 13) rfl rfl (by kernel_rfl) (by kernel_rfl) (by kernel_rfl) (by rfl) HK10.out (fun w hw => by go_simp) ?_
                          simp only [Act.put, List.setIfInBounds_toArray, List.set_cons_zero, List.set_cons_succ]
                          refine reg_end (by kernel_rfl) ?_
                          have HCC := Lib.hid (clashes_any v m (imk p) z32 100 _ _ w10 HRD.out.vs.b)
                          go_wp2_with (first
                            | (go_at_call 12; refine HCC.out.mono ?_; rintro e w11 ⟨rfl, rfl⟩)
                            | fail)
                          exact ⟨⟨i + 1, cl, _, F3, _, by omega, by go_num, rfl, HRD.out⟩, by simp [intOf]; omega⟩
                        · simp only [Act.put, List.setIfInBounds_toArray, List.set_cons_zero, List.set_cons_succ]
                          have HSB : Hid (Kp nob w wc2) := Lib.hid (HSA.out.trans HKC2.out (fun _ e => e.elim))
                          have HRD2 := Lib.hid (HRD1.out.keep HKC2.out)
                          have HIA := Lib.hid HRD2.out.iw; have HVA := Lib.hid HRD2.out.vs
                          have hgl := Nat.lt_of_lt_of_le HGL.out HKC2.out.size
                          have hrow := HROW.out.keep0 HKC2.out
                          clear HGL HROW
                          have HGL := Lib.hid hgl; have HROW := Lib.hid hrow
                          clear hgl hrow
                          have HA2 := Lib.hid (HAC2.out (uF F v m) HULa.out)
                          refine reg_call 4 (some 102) rfl rfl (by kernel_rfl) (by rfl) _ _ (exec_func 13 _ _ [.pointer (some ⟨v, 0, none⟩), .string kS, .slice (some ⟨wd.heap.size, 0, none⟩) 1 1] rfl (by kernel_rfl) rfl) ?_
                          refine (key_i v m p F ts z32 100 _ cl kS (some ⟨wd.heap.size, 0, none⟩) 1 1 [k2] wc2 HVA.out.b HIA.out HRX.out.ne rfl HROW.out (fun j e => by simp only [ab, Option.map_some, Option.some.injEq] at e; have := HGL.out; omega) (by have := HRX.out.cs.n; omega) (by decide) (by omega)).mono ?_
                          rintro e wk ⟨F2, rfl, hq⟩
                          have HIW0 := Lib.hid hq.i
                          have HKK := Lib.hid hq.k
                          have HF2 : Hid (∀ j, F2 j → w.heap.size ≤ j) := Lib.hid (fun j e => (hq.f j e).elim (HRX.out.f j) (fun e => Nat.le_trans HSB.out.size e))
                          have HFF : Hid (∀ j, F2 j → F j ∨ (wc2).heap.size ≤ j) := Lib.hid hq.f
                          have HNE2 : Hid (¬ F2 v ∧ ¬ F2 m) := Lib.hid ⟨fun e => (hq.f v e).elim HRX.out.ne.1 (fun e => by have := HVA.out.b.b.lt; omega), fun e => (hq.f m e).elim HRX.out.ne.2 (fun e => by have := HVA.out.b.s.lt; omega)⟩
                          have HVK := Lib.hid (HVA.out.turn hq.k HRX.out.ne.1 HRX.out.ne.2 hq.f)
                          have HKW : Hid (Kp nob w wk) := Lib.hid (HSB.out.since hq.k HRX.out.f)
                          clear hq
                          refine ⟨_, rfl, HKW.out, fun _ => ?_⟩
                          simp only [Act.put, List.setIfInBounds_toArray, List.set_cons_zero, List.set_cons_succ]
                          have HARG0 := Lib.hid (arg_later (F2 := uF F2 v m) HA2.out HKK.out (fun j e => .inl e) (fun j e => e.elim (fun e => (HFF.out j e).imp_left .inl) (fun e => .inl (.inr e))))
                          have HIW := HIW0; have HVS := HVK; have HK9 := HKW
                          obtain ⟨cc, hcc⟩ : ∃ cc, cc = c2 := ⟨_, rfl⟩
                          rw [← hcc] at HARG0 ⊢
                          have HARG := HARG0
                          clear hcc HARG0
                          have hu0 : refu 100 1 s2 = 0 := by unfold refu; rw [if_neg (by omega), if_neg (by omega)]
                          have hts := HRX.out.cs.n
                          have hmk := Ideal.mk_length_le ts (K k2)
                          refine reg_call 14 (some 112) rfl rfl (by kernel_rfl) (by rfl) _ _ (exec_func 9 _ _ [.pointer (some ⟨v, 0, none⟩), .agg (bvs (Kt ts k2)).toArray, .int .i64 1, .int .i64 s2, .slice (some ⟨wa.heap.size, 0, none⟩) x.length cc, .slice none 0 0] rfl (by kernel_rfl) rfl) ?_
                          refine (seal_yes dife Z HN.out v m p F2 (mk ts (K k2)) z32 100 sl cl (Kt ts k2) (Kt_length ts k2) 1 s2 _ x.length cc x none 0 0 [] wk HVS.out HIW.out HNE2.out HARG.out (args_none _ _) (by omega) (by omega) (by decide) (by have := HRX.out.n; omega) hu0
                            (fun w' h => HZ.out w' (HK9.out.since h HF2.out))).mono ?_
                          rintro e w10 ⟨F3, X, cX, rfl, hs⟩
                          have HSD := Lib.hid hs
                          have HK10 : Hid (Kp nob w w10) := Lib.hid (HK9.out.since hs.kp (fun i e => e.elim (HF2.out i) (fun e => e.elim (fun e => e ▸ HRX.out.lt.1) (fun e => e ▸ HRX.out.lt.2))))
                          have hcl : cl + clash dife sl (pl (Kt ts k2) (nonce 1 s2) (Kt_length ts k2) (nonce_length 1 s2)) x = cl := by
                            have h1 := HRX.out.cs.last (by omega) k2 s2 (List.mem_of_getElem? HX.out.2.1) ⟨by omega, by omega⟩ (pl (Kt ts k2) (nonce 1 s2) (Kt_length ts k2) (nonce_length 1 s2)) rfl
                            have h2 : clash dife sl (pl (Kt ts k2) (nonce 1 s2) (Kt_length ts k2) (nonce_length 1 s2)) x = more dife (prev ks qs xs i k2 s2) x := by rw [clash, h1]; rfl
                            rw [h2]; exact HCW.out.symm
                          have hrd : Rd ks qs xs w w10 v m p (i + 1) cl (mk (mk ts (K k2)) (sealT (Kt ts k2) (nonce 1 s2) (catP []) x)) F3 (upd sl (pl (Kt ts k2) (nonce 1 s2) (Kt_length ts k2) (nonce_length 1 s2)) x) :=
                            ⟨HRX.out.cs.step (by omega) k2 s2 x HX.out.2.1 HX.out.2.2 HX.out.1 ⟨by omega, by omega⟩ HI.out _ rfl _ rfl, hs.iw, by have := hs.vs; rw [hcl] at this; exact this, hs.ne, fun j e => (hs.f j e).elim (HF2.out j) (fun e => Nat.le_trans HK9.out.size e), HRX.out.lt, HK10.out, by have := HCW.out; have := HRX.out.n; have : more dife (prev ks qs xs i k2 s2) x ≤ 1 := more_le _ _ _; omega⟩
                          have HRD := Lib.hid hrd
                          clear hs hrd hcl hu0 hts hmk
                          refine ⟨_, rfl, HK10.out, fun _ => ?_⟩
                          simp only [Act.put, List.setIfInBounds_toArray, List.set_cons_zero, List.set_cons_succ]
                          refine reg_take (v := .tuple #[.slice X (x.length + 16) cX, .int .i64 0]) 15 (some 97) rfl rfl (by kernel_rfl) (by kernel_rfl) (by kernel_rfl) (by rfl) HK10.out (fun w hw => by go_simp) ?_
                          simp only [Act.put, List.setIfInBounds_toArray, List.set_cons_zero, List.set_cons_succ]
                          refine reg_take (v := .slice X (x.length + 16) cX) 16 (some 113) rfl rfl (by kernel_rfl) (by kernel_rfl) (by kernel_rfl) (by rfl) HK10.out (fun w hw => by go_simp) ?_
                          simp only [Act.put, List.setIfInBounds_toArray, List.set_cons_zero, List.set_cons_succ]
                          refine reg_take (v := .int .i64 0) 17 (some 114) rfl rfl (by kernel_rfl) (by kernel_rfl) (by kernel_rfl) (by rfl) HK10.out (fun w hw => by go_simp) ?_
                          simp only [Act.put, List.setIfInBounds_toArray, List.set_cons_zero, List.set_cons_succ]
                          refine reg_take (v := .slice X (x.length + 16) cX) 18 (some 12) rfl rfl (by kernel_rfl) (by kernel_rfl) (by kernel_rfl) (by rfl) HK10.out (fun w hw => by go_simp) ?_
                          simp only [Act.put, List.setIfInBounds_toArray, List.set_cons_zero, List.set_cons_succ]
                          refine reg_take (v := .int .i64 0) 19 (some 13) rfl rfl (by kernel_rfl) (by kernel_rfl) (by kernel_rfl) (by rfl) HK10.out (fun w hw => by go_simp) ?_
                          simp only [Act.put, List.setIfInBounds_toArray, List.set_cons_zero, List.set_cons_succ]
                          refine reg_end (by kernel_rfl) ?_
                          have HCC := Lib.hid (clashes_any v m (imk p) z32 100 _ _ w10 HRD.out.vs.b)
                          go_wp2_with (first
                            | (go_at_call 12; refine HCC.out.mono ?_; rintro e w11 ⟨rfl, rfl⟩)
                            | fail)
                          exact ⟨⟨i + 1, cl, _, F3, _, by omega, by go_num, rfl, HRD.out⟩, by simp [intOf]; omega⟩
                      · simp only [Act.put, List.setIfInBounds_toArray, List.set_cons_zero, List.set_cons_succ]
                        have HSA : Hid (Kp nob w (wc.alloc (.cells #[.int .i64 k2] 3))) := Lib.hid ((HS.out.trans HKC.out (fun _ e => e.elim)).alloc _)
                        have k1 := (Kp.refl nob wc).alloc (.cells #[.int .i64 k2] 3)
                        have HROW : Hid (Row (wc.alloc (.cells #[.int .i64 k2] 3)) (some ⟨wc.heap.size, 0, none⟩) (ivs [k2])) := Lib.hid (row_one wc _ _)
                        have HGL : Hid (wc.heap.size < (wc.alloc (.cells #[.int .i64 k2] 3)).heap.size) := Lib.hid (by simp)
                        have HA2 := Lib.hid ((HAC.out (uF F v m) HUL.out).keep0 k1)
                        have HRD1 := Lib.hid (HRD0.out.keep (HKC.out.trans k1 (fun _ e => e.elim)))
                        refine reg_step (w' := wc.alloc (.cells #[.int .i64 k2] 3)) (v := .slice (some ⟨wc.heap.size, 0, none⟩) 1 1) 3 (some 101) rfl rfl (by kernel_rfl) (by rfl) (by first | kernel_rfl | (go_simp; rfl)) HSA.out (fun _ => ?_)
                        simp only [Act.put, List.setIfInBounds_toArray, List.set_cons_zero, List.set_cons_succ]
                        generalize wc.alloc (.cells #[.int .i64 k2] 3) = wa at *
                        have HIA := Lib.hid HRD1.out.iw; have HVA := Lib.hid HRD1.out.vs
                        clear k1 HKC HAC HZC HCO HUL
                        refine reg_call 4 (some 102) rfl rfl (by kernel_rfl) (by rfl) _ _ (exec_func 13 _ _ [.pointer (some ⟨v, 0, none⟩), .string kS, .slice (some ⟨wc.heap.size, 0, none⟩) 1 1] rfl (by kernel_rfl) rfl) ?_
                        refine (key_i v m p F ts z32 100 _ cl kS (some ⟨wc.heap.size, 0, none⟩) 1 1 [k2] wa HVA.out.b HIA.out HRX.out.ne rfl HROW.out (fun j e => by simp only [ab, Option.map_some, Option.some.injEq] at e; have := HGL.out; omega) (by have := HRX.out.cs.n; omega) (by decide) (by omega)).mono ?_
                        rintro e wk ⟨F2, rfl, hq⟩
                        have HIW0 := Lib.hid hq.i
                        have HKK := Lib.hid hq.k
                        have HF2 : Hid (∀ j, F2 j → w.heap.size ≤ j) := Lib.hid (fun j e => (hq.f j e).elim (HRX.out.f j) (fun e => Nat.le_trans HSA.out.size e))
                        have HFF : Hid (∀ j, F2 j → F j ∨ (wa).heap.size ≤ j) := Lib.hid hq.f
                        have HNE2 : Hid (¬ F2 v ∧ ¬ F2 m) := Lib.hid ⟨fun e => (hq.f v e).elim HRX.out.ne.1 (fun e => by have := HVA.out.b.b.lt; omega), fun e => (hq.f m e).elim HRX.out.ne.2 (fun e => by have := HVA.out.b.s.lt; omega)⟩
                        have HVK := Lib.hid (HVA.out.turn hq.k HRX.out.ne.1 HRX.out.ne.2 hq.f)
                        have HKW : Hid (Kp nob w wk) := Lib.hid (HSA.out.since hq.k HRX.out.f)
                        clear hq
                        refine ⟨_, rfl, HKW.out, fun _ => ?_⟩
                        simp only [Act.put, List.setIfInBounds_toArray, List.set_cons_zero, List.set_cons_succ]
                        have HARG := Lib.hid (arg_later (F2 := uF F2 v m) HA2.out HKK.out (fun j e => .inl e) (fun j e => e.elim (fun e => (HFF.out j e).imp_left .inl) (fun e => .inl (.inr e))))
                        have HIW := HIW0; have HVS := HVK; have HK9 := HKW
                        have hu0 : refu 100 1 s2 = 0 := by unfold refu; rw [if_neg (by omega), if_neg (by omega)]
                        have hts := HRX.out.cs.n
                        have hmk := Ideal.mk_length_le ts (K k2)
                        refine reg_call 14 (some 112) rfl rfl (by kernel_rfl) (by rfl) _ _ (exec_func 9 _ _ [.pointer (some ⟨v, 0, none⟩), .agg (bvs (Kt ts k2)).toArray, .int .i64 1, .int .i64 s2, .slice (some ⟨wd.heap.size, 0, none⟩) x.length cc, .slice none 0 0] rfl (by kernel_rfl) rfl) ?_
                        refine (seal_yes dife Z HN.out v m p F2 (mk ts (K k2)) z32 100 sl cl (Kt ts k2) (Kt_length ts k2) 1 s2 _ x.length cc x none 0 0 [] wk HVS.out HIW.out HNE2.out HARG.out (args_none _ _) (by omega) (by omega) (by decide) (by have := HRX.out.n; omega) hu0
                          (fun w' h => HZ.out w' (HK9.out.since h HF2.out))).mono ?_
                        rintro e w10 ⟨F3, X, cX, rfl, hs⟩
                        have HSD := Lib.hid hs
                        have HK10 : Hid (Kp nob w w10) := Lib.hid (HK9.out.since hs.kp (fun i e => e.elim (HF2.out i) (fun e => e.elim (fun e => e ▸ HRX.out.lt.1) (fun e => e ▸ HRX.out.lt.2))))
                        have hcl : cl + clash dife sl (pl (Kt ts k2) (nonce 1 s2) (Kt_length ts k2) (nonce_length 1 s2)) x = cl := by
                          have h1 := HRX.out.cs.last (by omega) k2 s2 (List.mem_of_getElem? HX.out.2.1) ⟨by omega, by omega⟩ (pl (Kt ts k2) (nonce 1 s2) (Kt_length ts k2) (nonce_length 1 s2)) rfl
                          have h2 : clash dife sl (pl (Kt ts k2) (nonce 1 s2) (Kt_length ts k2) (nonce_length 1 s2)) x = more dife (prev ks qs xs i k2 s2) x := by rw [clash, h1]; rfl
                          rw [h2]; exact HCW.out.symm
                        have hrd : Rd ks qs xs w w10 v m p (i + 1) cl (mk (mk ts (K k2)) (sealT (Kt ts k2) (nonce 1 s2) (catP []) x)) F3 (upd sl (pl (Kt ts k2) (nonce 1 s2) (Kt_length ts k2) (nonce_length 1 s2)) x) :=
                          ⟨HRX.out.cs.step (by omega) k2 s2 x HX.out.2.1 HX.out.2.2 HX.out.1 ⟨by omega, by omega⟩ HI.out _ rfl _ rfl, hs.iw, by have := hs.vs; rw [hcl] at this; exact this, hs.ne, fun j e => (hs.f j e).elim (HF2.out j) (fun e => Nat.le_trans HK9.out.size e), HRX.out.lt, HK10.out, by have := HCW.out; have := HRX.out.n; have : more dife (prev ks qs xs i k2 s2) x ≤ 1 := more_le _ _ _; omega⟩
                        have HRD := Lib.hid hrd
                        clear hs hrd hcl hu0 hts hmk
                        refine ⟨_, rfl, HK10.out, fun _ => ?_⟩
                        simp only [Act.put, List.setIfInBounds_toArray, List.set_cons_zero, List.set_cons_succ]
                        refine reg_take (v := .tuple #[.slice X (x.length + 16) cX, .int .i64 0]) 15 (some 97) rfl rfl (by kernel_rfl) (by kernel_rfl) (by kernel_rfl) (by rfl) HK10.out (fun w hw => by go_simp) ?_
                        simp only [Act.put, List.setIfInBounds_toArray, List.set_cons_zero, List.set_cons_succ]
                        refine reg_take (v := .slice X (x.length + 16) cX) 16 (some 113) rfl rfl (by kernel_rfl) (by kernel_rfl) (by kernel_rfl) (by rfl) HK10.out (fun w hw => by go_simp) ?_
                        simp only [Act.put, List.setIfInBounds_toArray, List.set_cons_zero, List.set_cons_succ]
                        refine reg_take (v := .int .i64 0) 17 (some 114) rfl rfl (by kernel_rfl) (by kernel_rfl) (by kernel_rfl) (by rfl) HK10.out (fun w hw => by go_simp) ?_
                        simp only [Act.put, List.setIfInBounds_toArray, List.set_cons_zero, List.set_cons_succ]
                        refine reg_take (v := .slice X (x.length + 16) cX) 18 (some 12) rfl rfl (by kernel_rfl) (by kernel_rfl) (by kernel_rfl) (by rfl) HK10.out (fun w hw => by go_simp) ?_
                        simp only [Act.put, List.setIfInBounds_toArray, List.set_cons_zero, List.set_cons_succ]
                        refine reg_take (v := .int .i64 0) 19 (some 13) rfl rfl (by kernel_rfl) (by kernel_rfl) (by kernel_rfl) (by rfl) HK10.out (fun w hw => by go_simp) ?_
                        simp only [Act.put, List.setIfInBounds_toArray, List.set_cons_zero, List.set_cons_succ]
                        refine reg_end (by kernel_rfl) ?_
                        have HCC := Lib.hid (clashes_any v m (imk p) z32 100 _ _ w10 HRD.out.vs.b)
                        go_wp2_with (first
                          | (go_at_call 12; refine HCC.out.mono ?_; rintro e w11 ⟨rfl, rfl⟩)
                          | fail)
                        exact ⟨⟨i + 1, cl, _, F3, _, by omega, by go_num, rfl, HRD.out⟩, by simp [intOf]; omega⟩
                    case neg =>
                      have kb : ((str x2).toList == (str x).toList) = false := by rw [str_beq]; simpa using hxe
                      obtain ⟨cw, hcw⟩ : ∃ cw, cw = cl + 1 := ⟨_, rfl⟩
                      have HCW : Hid (cw = cl + more dife (prev ks qs xs i k2 s2) x) := Lib.hid (by rw [HPY.out, more, dife, hcw]; simp [hxe])
                      have e3 : IntKind.i64.wrap ((cl : Int) + 1) = (cw : Int) := by have := HRX.out.n; rw [IntKind.wrap_i64]; omega
                      clear hcw
                      go_wp2
                      go_quiet (fail)
                      generalize hwq : World.drewN wq nq = wz
                      have HRQ := Lib.hid (HRX.out.keep (by rw [← hwq]; exact (Kp.refl nob _).drewN _ : Kp nob wq wz))
                      clear hwq hc4 hc5 HRX kb
                      have HRX := HRQ
                      clear HRQ
                      go_wp2
                      have HCQ : Hid (∀ w', Kp nob w w' → w'.cell? ⟨bQ, oQ + i, none⟩ = some (.int .i64 s2)) := Lib.hid (fun w' h => by obtain ⟨b, o, hA, _, hc⟩ := int_at (R2.out.keep0 h) i s2 HX.out.2.2; cases hA; exact hc)
                      have HCT : Hid (∀ w', Kp nob w w' → w'.cell? ⟨bT, oT + i, none⟩ = some (.string (str x))) := Lib.hid (fun w' h => by obtain ⟨b, o, hA, _, hc⟩ := text_at (R3.out.keep0 h) i x HX.out.1; cases hA; exact hc)
                      have HS : Hid (Kp nob w wz.drew) := Lib.hid HRX.out.k.drew
                      have HRD0 := Lib.hid (HRX.out.keep (Kp.refl nob wz).drew)
                      have hiQ : i < nQ := by omega
                      have hiT : i < nt := by omega
                      refine reg_begin (Kp nob w) (by kernel_rfl) HS.out (fun _ => ?_)
                      refine reg_take (v := .pointer (some ⟨v, 0, none⟩)) 0 (some 98) rfl rfl (by kernel_rfl) (by kernel_rfl) (by kernel_rfl) (by rfl) HS.out (fun w hw => by go_simp) ?_
                      simp only [Act.put, List.setIfInBounds_toArray, List.set_cons_zero, List.set_cons_succ]
                      refine reg_take (v := .pointer (some ⟨v, 0, none⟩)) 1 (some 99) rfl rfl (by kernel_rfl) (by kernel_rfl) (by kernel_rfl) (by rfl) HS.out (fun w hw => by go_simp) ?_
                      simp only [Act.put, List.setIfInBounds_toArray, List.set_cons_zero, List.set_cons_succ]
                      refine reg_take (v := .int .i64 k2) 2 (some 100) rfl rfl (by kernel_rfl) (by kernel_rfl) (by kernel_rfl) (by rfl) HS.out (fun w hw => by go_simp) ?_
                      simp only [Act.put, List.setIfInBounds_toArray, List.set_cons_zero, List.set_cons_succ]
                      refine reg_take (v := .slice (some ⟨bQ, oQ, none⟩) nQ cq) 5 (some 103) rfl rfl (by kernel_rfl) (by kernel_rfl) (by kernel_rfl) (by rfl) HS.out (fun w hw => by go_simp) ?_
                      simp only [Act.put, List.setIfInBounds_toArray, List.set_cons_zero, List.set_cons_succ]
                      refine reg_take (v := .int .i64 i) 6 (some 104) rfl rfl (by kernel_rfl) (by kernel_rfl) (by kernel_rfl) (by rfl) HS.out (fun w hw => by go_simp) ?_
                      simp only [Act.put, List.setIfInBounds_toArray, List.set_cons_zero, List.set_cons_succ]
                      refine reg_take (v := .pointer (some ⟨bQ, oQ + i, none⟩)) 7 (some 105) rfl rfl (by kernel_rfl) (by kernel_rfl) (by kernel_rfl) (by rfl) HS.out (fun w hw => by go_simp) ?_
                      simp only [Act.put, List.setIfInBounds_toArray, List.set_cons_zero, List.set_cons_succ]
                      refine reg_take (v := .int .i64 s2) 8 (some 106) rfl rfl (by kernel_rfl) (by kernel_rfl) (by kernel_rfl) (by rfl) HS.out (fun w hw => by have hc := HCQ.out w hw; go_simp) ?_
                      simp only [Act.put, List.setIfInBounds_toArray, List.set_cons_zero, List.set_cons_succ]
                      refine reg_take (v := .slice (some ⟨bT, oT, none⟩) nt ct) 9 (some 107) rfl rfl (by kernel_rfl) (by kernel_rfl) (by kernel_rfl) (by rfl) HS.out (fun w hw => by go_simp) ?_
                      simp only [Act.put, List.setIfInBounds_toArray, List.set_cons_zero, List.set_cons_succ]
                      refine reg_take (v := .int .i64 i) 10 (some 108) rfl rfl (by kernel_rfl) (by kernel_rfl) (by kernel_rfl) (by rfl) HS.out (fun w hw => by go_simp) ?_
                      simp only [Act.put, List.setIfInBounds_toArray, List.set_cons_zero, List.set_cons_succ]
                      refine reg_take (v := .pointer (some ⟨bT, oT + i, none⟩)) 11 (some 109) rfl rfl (by kernel_rfl) (by kernel_rfl) (by kernel_rfl) (by rfl) HS.out (fun w hw => by go_simp) ?_
                      simp only [Act.put, List.setIfInBounds_toArray, List.set_cons_zero, List.set_cons_succ]
                      refine reg_take (v := .string (str x)) 12 (some 110) rfl rfl (by kernel_rfl) (by kernel_rfl) (by kernel_rfl) (by rfl) HS.out (fun w hw => by have hc := HCT.out w hw; go_simp) ?_
                      simp only [Act.put, List.setIfInBounds_toArray, List.set_cons_zero, List.set_cons_succ]
                      obtain ⟨wd, hwd⟩ : ∃ wd, wd = wz.drew := ⟨_, rfl⟩
                      rw [← hwd] at HS HRD0 ⊢
                      clear hwd
                      obtain ⟨cc, wc, hr, kc, zs, hac⟩ := str_arg (P := Try.prog) wd 9 29 5 x (by unfold maxLen; omega) (by kernel_rfl) u8n_under u8v
                      have HKC := Lib.hid kc
                      have HAC := Lib.hid hac
                      have HZC := Lib.hid zs
                      have HCO := Lib.hid hr
                      have hul : ∀ j, uF F v m j → j < wd.heap.size := fun j h => h.elim (HRD0.out.iw.lt j) (fun h => h.elim (fun h => h ▸ HRD0.out.vs.b.b.lt) (fun h => h ▸ HRD0.out.vs.b.s.lt))
                      have HUL := Lib.hid hul
                      clear hr kc zs hac hul
                      refine reg_stepOr (wi := wd.alloc (.cells #[.int .i64 k2] 3)) (v := .slice (some ⟨wd.heap.size, 0, none⟩) 1 1) (wj := wc) (u := .slice (some ⟨wd.heap.size, 0, none⟩) x.length cc) 3 13 (some 101) (some 111) rfl rfl rfl rfl (by kernel_rfl) (by rfl) (by rfl) (by first | kernel_rfl | (go_simp; rfl)) (exec_conv _ _ _ rfl _ rfl HCO.out) (HS.out.alloc _) (HS.out.trans HKC.out (fun _ e => e.elim)) (fun _ => ?_) (fun _ => ?_)
                      · have k1 := (Kp.refl nob wd).alloc (.cells #[.int .i64 k2] 3)
                        have HROW : Hid (Row (wd.alloc (.cells #[.int .i64 k2] 3)) (some ⟨wd.heap.size, 0, none⟩) (ivs [k2])) := Lib.hid (row_one wd _ _)
                        have HGL : Hid (wd.heap.size < (wd.alloc (.cells #[.int .i64 k2] 3)).heap.size) := Lib.hid (by simp)
                        have HSA : Hid (Kp nob w (wd.alloc (.cells #[.int .i64 k2] 3))) := Lib.hid (HS.out.alloc _)
                        have HRD1 := Lib.hid (HRD0.out.keep k1)
                        generalize wd.alloc (.cells #[.int .i64 k2] 3) = wa at *
                        have HULa : Hid (∀ j, uF F v m j → j < wa.heap.size) := Lib.hid (fun j h => h.elim (HRD1.out.iw.lt j) (fun h => h.elim (fun h => h ▸ HRD1.out.vs.b.b.lt) (fun h => h ▸ HRD1.out.vs.b.s.lt)))
                        obtain ⟨c2, wc2, hr, kc, zs, hac⟩ := str_arg (P := Try.prog) wa 9 29 5 x (by unfold maxLen; omega) (by kernel_rfl) u8n_under u8v
                        have HKC2 := Lib.hid kc
                        have HAC2 := Lib.hid hac
                        have HCO2 := Lib.hid hr
                        clear hr kc zs hac k1 HKC HAC HZC HCO HUL
                        simp only [Act.put, List.setIfInBounds_toArray, List.set_cons_zero, List.set_cons_succ]
                        refine reg_callOr (w' := wc2) (v := .slice (some ⟨wa.heap.size, 0, none⟩) x.length c2) 4 13 (some 102) (some 111) rfl rfl rfl rfl (by kernel_rfl) (by rfl) (by rfl) _ _ (exec_func 13 _ _ [.pointer (some ⟨v, 0, none⟩), .string kS, .slice (some ⟨wd.heap.size, 0, none⟩) 1 1] rfl (by kernel_rfl) rfl) (exec_conv _ _ _ rfl _ rfl HCO2.out) (HSA.out.trans HKC2.out (fun _ e => e.elim)) ?_ (fun _ => ?_)
                        · have HIA := Lib.hid HRD1.out.iw; have HVA := Lib.hid HRD1.out.vs
                          refine (key_i v m p F ts z32 100 _ cl kS (some ⟨wd.heap.size, 0, none⟩) 1 1 [k2] wa HVA.out.b HIA.out HRX.out.ne rfl HROW.out (fun j e => by simp only [ab, Option.map_some, Option.some.injEq] at e; have := HGL.out; omega) (by have := HRX.out.cs.n; omega) (by decide) (by omega)).mono ?_
                          rintro e wk ⟨F2, rfl, hq⟩
                          have HIW0 := Lib.hid hq.i
                          have HKK := Lib.hid hq.k
                          have HF2 : Hid (∀ j, F2 j → w.heap.size ≤ j) := Lib.hid (fun j e => (hq.f j e).elim (HRX.out.f j) (fun e => Nat.le_trans HSA.out.size e))
                          have HFF : Hid (∀ j, F2 j → F j ∨ (wa).heap.size ≤ j) := Lib.hid hq.f
                          have HNE2 : Hid (¬ F2 v ∧ ¬ F2 m) := Lib.hid ⟨fun e => (hq.f v e).elim HRX.out.ne.1 (fun e => by have := HVA.out.b.b.lt; omega), fun e => (hq.f m e).elim HRX.out.ne.2 (fun e => by have := HVA.out.b.s.lt; omega)⟩
                          have HVK := Lib.hid (HVA.out.turn hq.k HRX.out.ne.1 HRX.out.ne.2 hq.f)
                          have HKW : Hid (Kp nob w wk) := Lib.hid (HSA.out.since hq.k HRX.out.f)
                          clear hq
                          refine ⟨_, rfl, HKW.out, fun _ => ?_⟩
                          simp only [Act.put, List.setIfInBounds_toArray, List.set_cons_zero, List.set_cons_succ]
                          obtain ⟨cc, wc3, hr, kc3, zs, hac⟩ := str_arg (P := Try.prog) wk 9 29 5 x (by unfold maxLen; omega) (by kernel_rfl) u8n_under u8v
                          have HK9 : Hid (Kp nob w wc3) := Lib.hid (HKW.out.trans kc3 (fun _ e => e.elim))
                          have HARG := Lib.hid (hac (uF F2 v m) (fun j h => h.elim (HIW0.out.lt j) (fun h => h.elim (fun h => h ▸ HVK.out.b.b.lt) (fun h => h ▸ HVK.out.b.s.lt))))
                          have HIW := Lib.hid (HIW0.out.keep kc3 (fun _ _ e => e))
                          have HVS := Lib.hid (HVK.out.keep0 kc3)
                          refine reg_step (w' := wc3) (v := .slice (some ⟨wk.heap.size, 0, none⟩) x.length cc) 13 (some 111) rfl rfl (by kernel_rfl) (by rfl) (exec_conv _ _ _ rfl _ rfl hr) HK9.out (fun _ => ?_)
                          simp only [Act.put, List.setIfInBounds_toArray, List.set_cons_zero, List.set_cons_succ]
                          clear hr kc3 zs hac
                          have hu0 : refu 100 1 s2 = 0 := by unfold refu; rw [if_neg (by omega), if_neg (by omega)]
                          have hts := HRX.out.cs.n
                          have hmk := Ideal.mk_length_le ts (K k2)
                          refine reg_call 14 (some 112) rfl rfl (by kernel_rfl) (by rfl) _ _ (exec_func 9 _ _ [.pointer (some ⟨v, 0, none⟩), .agg (bvs (Kt ts k2)).toArray, .int .i64 1, .int .i64 s2, .slice (some ⟨wk.heap.size, 0, none⟩) x.length cc, .slice none 0 0] rfl (by kernel_rfl) rfl) ?_
                          refine (seal_yes dife Z HN.out v m p F2 (mk ts (K k2)) z32 100 sl cl (Kt ts k2) (Kt_length ts k2) 1 s2 _ x.length cc x none 0 0 [] wc3 HVS.out HIW.out HNE2.out HARG.out (args_none _ _) (by omega) (by omega) (by decide) (by have := HRX.out.n; omega) hu0
                            (fun w' h => HZ.out w' (HK9.out.since h HF2.out))).mono ?_
                          rintro e w10 ⟨F3, X, cX, rfl, hs⟩
                          have HSD := Lib.hid hs
                          have HK10 : Hid (Kp nob w w10) := Lib.hid (HK9.out.since hs.kp (fun i e => e.elim (HF2.out i) (fun e => e.elim (fun e => e ▸ HRX.out.lt.1) (fun e => e ▸ HRX.out.lt.2))))
                          have hcl : cl + clash dife sl (pl (Kt ts k2) (nonce 1 s2) (Kt_length ts k2) (nonce_length 1 s2)) x = cw := by
                            have h1 := HRX.out.cs.last (by omega) k2 s2 (List.mem_of_getElem? HX.out.2.1) ⟨by omega, by omega⟩ (pl (Kt ts k2) (nonce 1 s2) (Kt_length ts k2) (nonce_length 1 s2)) rfl
                            have h2 : clash dife sl (pl (Kt ts k2) (nonce 1 s2) (Kt_length ts k2) (nonce_length 1 s2)) x = more dife (prev ks qs xs i k2 s2) x := by rw [clash, h1]; rfl
                            rw [h2]; exact HCW.out.symm
                          have hrd : Rd ks qs xs w w10 v m p (i + 1) cw (mk (mk ts (K k2)) (sealT (Kt ts k2) (nonce 1 s2) (catP []) x)) F3 (upd sl (pl (Kt ts k2) (nonce 1 s2) (Kt_length ts k2) (nonce_length 1 s2)) x) :=
                            ⟨HRX.out.cs.step (by omega) k2 s2 x HX.out.2.1 HX.out.2.2 HX.out.1 ⟨by omega, by omega⟩ HI.out _ rfl _ rfl, hs.iw, by have := hs.vs; rw [hcl] at this; exact this, hs.ne, fun j e => (hs.f j e).elim (HF2.out j) (fun e => Nat.le_trans HK9.out.size e), HRX.out.lt, HK10.out, by have := HCW.out; have := HRX.out.n; have : more dife (prev ks qs xs i k2 s2) x ≤ 1 := more_le _ _ _; omega⟩
                          have HRD := Lib.hid hrd
                          clear hs hrd hcl hu0 hts hmk
                          refine ⟨_, rfl, HK10.out, fun _ => ?_⟩
                          simp only [Act.put, List.setIfInBounds_toArray, List.set_cons_zero, List.set_cons_succ]
                          refine reg_take (v := .tuple #[.slice X (x.length + 16) cX, .int .i64 0]) 15 (some 97) rfl rfl (by kernel_rfl) (by kernel_rfl) (by kernel_rfl) (by rfl) HK10.out (fun w hw => by go_simp) ?_
                          simp only [Act.put, List.setIfInBounds_toArray, List.set_cons_zero, List.set_cons_succ]
                          refine reg_take (v := .slice X (x.length + 16) cX) 16 (some 113) rfl rfl (by kernel_rfl) (by kernel_rfl) (by kernel_rfl) (by rfl) HK10.out (fun w hw => by go_simp) ?_
                          simp only [Act.put, List.setIfInBounds_toArray, List.set_cons_zero, List.set_cons_succ]
                          refine reg_take (v := .int .i64 0) 17 (some 114) rfl rfl (by kernel_rfl) (by kernel_rfl) (by kernel_rfl) (by rfl) HK10.out (fun w hw => by go_simp) ?_
                          simp only [Act.put, List.setIfInBounds_toArray, List.set_cons_zero, List.set_cons_succ]
                          refine reg_take (v := .slice X (x.length + 16) cX) 18 (some 12) rfl rfl (by kernel_rfl) (by kernel_rfl) (by kernel_rfl) (by rfl) HK10.out (fun w hw => by go_simp) ?_
                          simp only [Act.put, List.setIfInBounds_toArray, List.set_cons_zero, List.set_cons_succ]
                          refine reg_take (v := .int .i64 0) 19 (some 13) rfl rfl (by kernel_rfl) (by kernel_rfl) (by kernel_rfl) (by rfl) HK10.out (fun w hw => by go_simp) ?_
                          simp only [Act.put, List.setIfInBounds_toArray, List.set_cons_zero, List.set_cons_succ]
                          refine reg_end (by kernel_rfl) ?_
                          have HCC := Lib.hid (clashes_any v m (imk p) z32 100 _ _ w10 HRD.out.vs.b)
                          go_wp2_with (first
                            | (go_at_call 12; refine HCC.out.mono ?_; rintro e w11 ⟨rfl, rfl⟩)
                            | fail)
                          exact ⟨⟨i + 1, cw, _, F3, _, by omega, by go_num, rfl, HRD.out⟩, by simp [intOf]; omega⟩
                        · simp only [Act.put, List.setIfInBounds_toArray, List.set_cons_zero, List.set_cons_succ]
                          have HSB : Hid (Kp nob w wc2) := Lib.hid (HSA.out.trans HKC2.out (fun _ e => e.elim))
                          have HRD2 := Lib.hid (HRD1.out.keep HKC2.out)
                          have HIA := Lib.hid HRD2.out.iw; have HVA := Lib.hid HRD2.out.vs
                          have hgl := Nat.lt_of_lt_of_le HGL.out HKC2.out.size
                          have hrow := HROW.out.keep0 HKC2.out
                          clear HGL HROW
                          have HGL := Lib.hid hgl; have HROW := Lib.hid hrow
                          clear hgl hrow
                          have HA2 := Lib.hid (HAC2.out (uF F v m) HULa.out)
                          refine reg_call 4 (some 102) rfl rfl (by kernel_rfl) (by rfl) _ _ (exec_func 13 _ _ [.pointer (some ⟨v, 0, none⟩), .string kS, .slice (some ⟨wd.heap.size, 0, none⟩) 1 1] rfl (by kernel_rfl) rfl) ?_
                          refine (key_i v m p F ts z32 100 _ cl kS (some ⟨wd.heap.size, 0, none⟩) 1 1 [k2] wc2 HVA.out.b HIA.out HRX.out.ne rfl HROW.out (fun j e => by simp only [ab, Option.map_some, Option.some.injEq] at e; have := HGL.out; omega) (by have := HRX.out.cs.n; omega) (by decide) (by omega)).mono ?_
                          rintro e wk ⟨F2, rfl, hq⟩
                          have HIW0 := Lib.hid hq.i
                          have HKK := Lib.hid hq.k
                          have HF2 : Hid (∀ j, F2 j → w.heap.size ≤ j) := Lib.hid (fun j e => (hq.f j e).elim (HRX.out.f j) (fun e => Nat.le_trans HSB.out.size e))
                          have HFF : Hid (∀ j, F2 j → F j ∨ (wc2).heap.size ≤ j) := Lib.hid hq.f
                          have HNE2 : Hid (¬ F2 v ∧ ¬ F2 m) := Lib.hid ⟨fun e => (hq.f v e).elim HRX.out.ne.1 (fun e => by have := HVA.out.b.b.lt; omega), fun e => (hq.f m e).elim HRX.out.ne.2 (fun e => by have := HVA.out.b.s.lt; omega)⟩
                          have HVK := Lib.hid (HVA.out.turn hq.k HRX.out.ne.1 HRX.out.ne.2 hq.f)
                          have HKW : Hid (Kp nob w wk) := Lib.hid (HSB.out.since hq.k HRX.out.f)
                          clear hq
                          refine ⟨_, rfl, HKW.out, fun _ => ?_⟩
                          simp only [Act.put, List.setIfInBounds_toArray, List.set_cons_zero, List.set_cons_succ]
                          have HARG0 := Lib.hid (arg_later (F2 := uF F2 v m) HA2.out HKK.out (fun j e => .inl e) (fun j e => e.elim (fun e => (HFF.out j e).imp_left .inl) (fun e => .inl (.inr e))))
                          have HIW := HIW0; have HVS := HVK; have HK9 := HKW
                          obtain ⟨cc, hcc⟩ : ∃ cc, cc = c2 := ⟨_, rfl⟩
                          rw [← hcc] at HARG0 ⊢
                          have HARG := HARG0
                          clear hcc HARG0
                          have hu0 : refu 100 1 s2 = 0 := by unfold refu; rw [if_neg (by omega), if_neg (by omega)]
                          have hts := HRX.out.cs.n
                          have hmk := Ideal.mk_length_le ts (K k2)
                          refine reg_call 14 (some 112) rfl rfl (by kernel_rfl) (by rfl) _ _ (exec_func 9 _ _ [.pointer (some ⟨v, 0, none⟩), .agg (bvs (Kt ts k2)).toArray, .int .i64 1, .int .i64 s2, .slice (some ⟨wa.heap.size, 0, none⟩) x.length cc, .slice none 0 0] rfl (by kernel_rfl) rfl) ?_
                          refine (seal_yes dife Z HN.out v m p F2 (mk ts (K k2)) z32 100 sl cl (Kt ts k2) (Kt_length ts k2) 1 s2 _ x.length cc x none 0 0 [] wk HVS.out HIW.out HNE2.out HARG.out (args_none _ _) (by omega) (by omega) (by decide) (by have := HRX.out.n; omega) hu0
                            (fun w' h => HZ.out w' (HK9.out.since h HF2.out))).mono ?_
                          rintro e w10 ⟨F3, X, cX, rfl, hs⟩
                          have HSD := Lib.hid hs
                          have HK10 : Hid (Kp nob w w10) := Lib.hid (HK9.out.since hs.kp (fun i e => e.elim (HF2.out i) (fun e => e.elim (fun e => e ▸ HRX.out.lt.1) (fun e => e ▸ HRX.out.lt.2))))
                          have hcl : cl + clash dife sl (pl (Kt ts k2) (nonce 1 s2) (Kt_length ts k2) (nonce_length 1 s2)) x = cw := by
                            have h1 := HRX.out.cs.last (by omega) k2 s2 (List.mem_of_getElem? HX.out.2.1) ⟨by omega, by omega⟩ (pl (Kt ts k2) (nonce 1 s2) (Kt_length ts k2) (nonce_length 1 s2)) rfl
                            have h2 : clash dife sl (pl (Kt ts k2) (nonce 1 s2) (Kt_length ts k2) (nonce_length 1 s2)) x = more dife (prev ks qs xs i k2 s2) x := by rw [clash, h1]; rfl
                            rw [h2]; exact HCW.out.symm
                          have hrd : Rd ks qs xs w w10 v m p (i + 1) cw (mk (mk ts (K k2)) (sealT (Kt ts k2) (nonce 1 s2) (catP []) x)) F3 (upd sl (pl (Kt ts k2) (nonce 1 s2) (Kt_length ts k2) (nonce_length 1 s2)) x) :=
                            ⟨HRX.out.cs.step (by omega) k2 s2 x HX.out.2.1 HX.out.2.2 HX.out.1 ⟨by omega, by omega⟩ HI.out _ rfl _ rfl, hs.iw, by have := hs.vs; rw [hcl] at this; exact this, hs.ne, fun j e => (hs.f j e).elim (HF2.out j) (fun e => Nat.le_trans HK9.out.size e), HRX.out.lt, HK10.out, by have := HCW.out; have := HRX.out.n; have : more dife (prev ks qs xs i k2 s2) x ≤ 1 := more_le _ _ _; omega⟩
                          have HRD := Lib.hid hrd
                          clear hs hrd hcl hu0 hts hmk
                          refine ⟨_, rfl, HK10.out, fun _ => ?_⟩
                          simp only [Act.put, List.setIfInBounds_toArray, List.set_cons_zero, List.set_cons_succ]
                          refine reg_take (v := .tuple #[.slice X (x.length + 16) cX, .int .i64 0]) 15 (some 97) rfl rfl (by kernel_rfl) (by kernel_rfl) (by kernel_rfl) (by rfl) HK10.out (fun w hw => by go_simp) ?_
                          simp only [Act.put, List.setIfInBounds_toArray, List.set_cons_zero, List.set_cons_succ]
                          refine reg_take (v := .slice X (x.length + 16) cX) 16 (some 113) rfl rfl (by kernel_rfl) (by kernel_rfl) (by kernel_rfl) (by rfl) HK10.out (fun w hw => by go_simp) ?_
                          simp only [Act.put, List.setIfInBounds_toArray, List.set_cons_zero, List.set_cons_succ]
                          refine reg_take (v := .int .i64 0) 17 (some 114) rfl rfl (by kernel_rfl) (by kernel_rfl) (by kernel_rfl) (by rfl) HK10.out (fun w hw => by go_simp) ?_
                          simp only [Act.put, List.setIfInBounds_toArray, List.set_cons_zero, List.set_cons_succ]
                          refine reg_take (v := .slice X (x.length + 16) cX) 18 (some 12) rfl rfl (by kernel_rfl) (by kernel_rfl) (by kernel_rfl) (by rfl) HK10.out (fun w hw => by go_simp) ?_
                          simp only [Act.put, List.setIfInBounds_toArray, List.set_cons_zero, List.set_cons_succ]
                          refine reg_take (v := .int .i64 0) 19 (some 13) rfl rfl (by kernel_rfl) (by kernel_rfl) (by kernel_rfl) (by rfl) HK10.out (fun w hw => by go_simp) ?_
                          simp only [Act.put, List.setIfInBounds_toArray, List.set_cons_zero, List.set_cons_succ]
                          refine reg_end (by kernel_rfl) ?_
                          have HCC := Lib.hid (clashes_any v m (imk p) z32 100 _ _ w10 HRD.out.vs.b)
                          go_wp2_with (first
                            | (go_at_call 12; refine HCC.out.mono ?_; rintro e w11 ⟨rfl, rfl⟩)
                            | fail)
                          exact ⟨⟨i + 1, cw, _, F3, _, by omega, by go_num, rfl, HRD.out⟩, by simp [intOf]; omega⟩
                      · simp only [Act.put, List.setIfInBounds_toArray, List.set_cons_zero, List.set_cons_succ]
                        have HSA : Hid (Kp nob w (wc.alloc (.cells #[.int .i64 k2] 3))) := Lib.hid ((HS.out.trans HKC.out (fun _ e => e.elim)).alloc _)
                        have k1 := (Kp.refl nob wc).alloc (.cells #[.int .i64 k2] 3)
                        have HROW : Hid (Row (wc.alloc (.cells #[.int .i64 k2] 3)) (some ⟨wc.heap.size, 0, none⟩) (ivs [k2])) := Lib.hid (row_one wc _ _)
                        have HGL : Hid (wc.heap.size < (wc.alloc (.cells #[.int .i64 k2] 3)).heap.size) := Lib.hid (by simp)
                        have HA2 := Lib.hid ((HAC.out (uF F v m) HUL.out).keep0 k1)
                        have HRD1 := Lib.hid (HRD0.out.keep (HKC.out.trans k1 (fun _ e => e.elim)))
                        refine reg_step (w' := wc.alloc (.cells #[.int .i64 k2] 3)) (v := .slice (some ⟨wc.heap.size, 0, none⟩) 1 1) 3 (some 101) rfl rfl (by kernel_rfl) (by rfl) (by first | kernel_rfl | (go_simp; rfl)) HSA.out (fun _ => ?_)
                        simp only [Act.put, List.setIfInBounds_toArray, List.set_cons_zero, List.set_cons_succ]
                        generalize wc.alloc (.cells #[.int .i64 k2] 3) = wa at *
                        have HIA := Lib.hid HRD1.out.iw; have HVA := Lib.hid HRD1.out.vs
                        clear k1 HKC HAC HZC HCO HUL
                        refine reg_call 4 (some 102) rfl rfl (by kernel_rfl) (by rfl) _ _ (exec_func 13 _ _ [.pointer (some ⟨v, 0, none⟩), .string kS, .slice (some ⟨wc.heap.size, 0, none⟩) 1 1] rfl (by kernel_rfl) rfl) ?_
                        refine (key_i v m p F ts z32 100 _ cl kS (some ⟨wc.heap.size, 0, none⟩) 1 1 [k2] wa HVA.out.b HIA.out HRX.out.ne rfl HROW.out (fun j e => by simp only [ab, Option.map_some, Option.some.injEq] at e; have := HGL.out; omega) (by have := HRX.out.cs.n; omega) (by decide) (by omega)).mono ?_
                        rintro e wk ⟨F2, rfl, hq⟩
                        have HIW0 := Lib.hid hq.i
                        have HKK := Lib.hid hq.k
                        have HF2 : Hid (∀ j, F2 j → w.heap.size ≤ j) := Lib.hid (fun j e => (hq.f j e).elim (HRX.out.f j) (fun e => Nat.le_trans HSA.out.size e))
                        have HFF : Hid (∀ j, F2 j → F j ∨ (wa).heap.size ≤ j) := Lib.hid hq.f
                        have HNE2 : Hid (¬ F2 v ∧ ¬ F2 m) := Lib.hid ⟨fun e => (hq.f v e).elim HRX.out.ne.1 (fun e => by have := HVA.out.b.b.lt; omega), fun e => (hq.f m e).elim HRX.out.ne.2 (fun e => by have := HVA.out.b.s.lt; omega)⟩
                        have HVK := Lib.hid (HVA.out.turn hq.k HRX.out.ne.1 HRX.out.ne.2 hq.f)
                        have HKW : Hid (Kp nob w wk) := Lib.hid (HSA.out.since hq.k HRX.out.f)
                        clear hq
                        refine ⟨_, rfl, HKW.out, fun _ => ?_⟩
                        simp only [Act.put, List.setIfInBounds_toArray, List.set_cons_zero, List.set_cons_succ]
                        have HARG := Lib.hid (arg_later (F2 := uF F2 v m) HA2.out HKK.out (fun j e => .inl e) (fun j e => e.elim (fun e => (HFF.out j e).imp_left .inl) (fun e => .inl (.inr e))))
                        have HIW := HIW0; have HVS := HVK; have HK9 := HKW
                        have hu0 : refu 100 1 s2 = 0 := by unfold refu; rw [if_neg (by omega), if_neg (by omega)]
                        have hts := HRX.out.cs.n
                        have hmk := Ideal.mk_length_le ts (K k2)
                        refine reg_call 14 (some 112) rfl rfl (by kernel_rfl) (by rfl) _ _ (exec_func 9 _ _ [.pointer (some ⟨v, 0, none⟩), .agg (bvs (Kt ts k2)).toArray, .int .i64 1, .int .i64 s2, .slice (some ⟨wd.heap.size, 0, none⟩) x.length cc, .slice none 0 0] rfl (by kernel_rfl) rfl) ?_
                        refine (seal_yes dife Z HN.out v m p F2 (mk ts (K k2)) z32 100 sl cl (Kt ts k2) (Kt_length ts k2) 1 s2 _ x.length cc x none 0 0 [] wk HVS.out HIW.out HNE2.out HARG.out (args_none _ _) (by omega) (by omega) (by decide) (by have := HRX.out.n; omega) hu0
                          (fun w' h => HZ.out w' (HK9.out.since h HF2.out))).mono ?_
                        rintro e w10 ⟨F3, X, cX, rfl, hs⟩
                        have HSD := Lib.hid hs
                        have HK10 : Hid (Kp nob w w10) := Lib.hid (HK9.out.since hs.kp (fun i e => e.elim (HF2.out i) (fun e => e.elim (fun e => e ▸ HRX.out.lt.1) (fun e => e ▸ HRX.out.lt.2))))
                        have hcl : cl + clash dife sl (pl (Kt ts k2) (nonce 1 s2) (Kt_length ts k2) (nonce_length 1 s2)) x = cw := by
                          have h1 := HRX.out.cs.last (by omega) k2 s2 (List.mem_of_getElem? HX.out.2.1) ⟨by omega, by omega⟩ (pl (Kt ts k2) (nonce 1 s2) (Kt_length ts k2) (nonce_length 1 s2)) rfl
                          have h2 : clash dife sl (pl (Kt ts k2) (nonce 1 s2) (Kt_length ts k2) (nonce_length 1 s2)) x = more dife (prev ks qs xs i k2 s2) x := by rw [clash, h1]; rfl
                          rw [h2]; exact HCW.out.symm
                        have hrd : Rd ks qs xs w w10 v m p (i + 1) cw (mk (mk ts (K k2)) (sealT (Kt ts k2) (nonce 1 s2) (catP []) x)) F3 (upd sl (pl (Kt ts k2) (nonce 1 s2) (Kt_length ts k2) (nonce_length 1 s2)) x) :=
                          ⟨HRX.out.cs.step (by omega) k2 s2 x HX.out.2.1 HX.out.2.2 HX.out.1 ⟨by omega, by omega⟩ HI.out _ rfl _ rfl, hs.iw, by have := hs.vs; rw [hcl] at this; exact this, hs.ne, fun j e => (hs.f j e).elim (HF2.out j) (fun e => Nat.le_trans HK9.out.size e), HRX.out.lt, HK10.out, by have := HCW.out; have := HRX.out.n; have : more dife (prev ks qs xs i k2 s2) x ≤ 1 := more_le _ _ _; omega⟩
                        have HRD := Lib.hid hrd
                        clear hs hrd hcl hu0 hts hmk
                        refine ⟨_, rfl, HK10.out, fun _ => ?_⟩
                        simp only [Act.put, List.setIfInBounds_toArray, List.set_cons_zero, List.set_cons_succ]
                        refine reg_take (v := .tuple #[.slice X (x.length + 16) cX, .int .i64 0]) 15 (some 97) rfl rfl (by kernel_rfl) (by kernel_rfl) (by kernel_rfl) (by rfl) HK10.out (fun w hw => by go_simp) ?_
                        simp only [Act.put, List.setIfInBounds_toArray, List.set_cons_zero, List.set_cons_succ]
                        refine reg_take (v := .slice X (x.length + 16) cX) 16 (some 113) rfl rfl (by kernel_rfl) (by kernel_rfl) (by kernel_rfl) (by rfl) HK10.out (fun w hw => by go_simp) ?_
                        simp only [Act.put, List.setIfInBounds_toArray, List.set_cons_zero, List.set_cons_succ]
                        refine reg_take (v := .int .i64 0) 17 (some 114) rfl rfl (by kernel_rfl) (by kernel_rfl) (by kernel_rfl) (by rfl) HK10.out (fun w hw => by go_simp) ?_
                        simp only [Act.put, List.setIfInBounds_toArray, List.set_cons_zero, List.set_cons_succ]
                        refine reg_take (v := .slice X (x.length + 16) cX) 18 (some 12) rfl rfl (by kernel_rfl) (by kernel_rfl) (by kernel_rfl) (by rfl) HK10.out (fun w hw => by go_simp) ?_
                        simp only [Act.put, List.setIfInBounds_toArray, List.set_cons_zero, List.set_cons_succ]
                        refine reg_take (v := .int .i64 0) 19 (some 13) rfl rfl (by kernel_rfl) (by kernel_rfl) (by kernel_rfl) (by rfl) HK10.out (fun w hw => by go_simp) ?_
                        simp only [Act.put, List.setIfInBounds_toArray, List.set_cons_zero, List.set_cons_succ]
                        refine reg_end (by kernel_rfl) ?_
                        have HCC := Lib.hid (clashes_any v m (imk p) z32 100 _ _ w10 HRD.out.vs.b)
                        go_wp2_with (first
                          | (go_at_call 12; refine HCC.out.mono ?_; rintro e w11 ⟨rfl, rfl⟩)
                          | fail)
                        exact ⟨⟨i + 1, cw, _, F3, _, by omega, by go_num, rfl, HRD.out⟩, by simp [intOf]; omega⟩
end Go.Proofs.Ytmmpmncioifeoaa.Vault
namespace Go.Proofs.Ytmmpmncioifeoaa.Vault
set_option linter.unusedVariables false
set_option linter.unusedSimpArgs false
open Go Go.RowKit Kit
set_option maxHeartbeats 2000000 in
set_option maxRecDepth 100000 in
theorem clashes_walk (Z : World → Prop) (hN : NoteC dife Z) (A : Option Addr) (n c : Nat) (ks : List Int) (Q : Option Addr) (nQ cq : Nat) (qs : List Int) (T : Option Addr) (nt ct : Nat) (xs : List (List UInt8)) (w : World)
    (h1 : ks.length = n) (h2 : qs.length = nQ) (h3 : xs.length = nt) (r1 : Row w A (ivs ks)) (r2 : Row w Q (ivs qs)) (r3 : Row w T (tvs xs)) (hk : ∀ a ∈ ks, i64 a) (hz : ∀ w', Kp nob w w' → Z w') :
    Calls Try.prog 4 #[.slice A n c, .slice Q nQ cq, .slice T nt ct] w fun e w' => e = .returned (.bool true) ∧ Kp nob w w' := by
  by_cases hn : n ≤ 60
  · by_cases hnq : n ≤ nQ
    · by_cases hnt : n ≤ nt
      · exact clashes_yes Z hN A n c ks Q nQ cq qs T nt ct xs w h1 h2 h3 r1 r2 r3 hk hn hnq hnt hz
      · have d1 : decide ((60 : Int) < (n : Int)) = false := by simp; omega
        have d2 : decide ((nQ : Int) < (n : Int)) = false := by simp; omega
        have d3 : decide ((nt : Int) < (n : Int)) = true := by simp; omega
        have HY := Lib.hid (alive_yes dife Z hN w hz)
        clear h1 h2 h3 r1 r2 r3 hk hz hN
        go_enter Try.func4, Try.ntmps4
        go_wp2_with fail
        refine HY.out.mono ?_
        rintro e w1 ⟨rfl, k1⟩
        go_wp2
        go_ret
        exact ⟨rfl, k1⟩
    · have d1 : decide ((60 : Int) < (n : Int)) = false := by simp; omega
      have d2 : decide ((nQ : Int) < (n : Int)) = true := by simp; omega
      have HY := Lib.hid (alive_yes dife Z hN w hz)
      clear h1 h2 h3 r1 r2 r3 hk hz hN
      go_enter Try.func4, Try.ntmps4
      go_wp2_with fail
      refine HY.out.mono ?_
      rintro e w1 ⟨rfl, k1⟩
      go_wp2
      go_ret
      exact ⟨rfl, k1⟩
  · have d1 : decide ((60 : Int) < (n : Int)) = true := by simp; omega
    have HY := Lib.hid (alive_yes dife Z hN w hz)
    clear h1 h2 h3 r1 r2 r3 hk hz hN
    go_enter Try.func4, Try.ntmps4
    go_wp2_with fail
    refine HY.out.mono ?_
    rintro e w1 ⟨rfl, k1⟩
    go_wp2
    go_ret
    exact ⟨rfl, k1⟩
end Go.Proofs.Ytmmpmncioifeoaa.Vault
