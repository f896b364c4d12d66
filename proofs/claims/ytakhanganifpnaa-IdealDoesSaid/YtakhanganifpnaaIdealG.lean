/- How much a script is: great. -/
import Derived.Test.YtakhanganifpnaaRows
import Derived.Test.YtakhanganifpnaaIdealT
import Derived.Test.YtakhanganifpnaaScr
import Derived.Test.YtakhanganifpnaaBlkC
import Derived.Test.YtakhanganifpnaaBlkF
namespace Go.Proofs.Ytakhanganifpnaa.Ideal
set_option linter.unusedVariables false
set_option linter.unusedSimpArgs false
open Go Go.RowKit Kit

theorem own : ownKnob Try.prog.godebug = none := by kernel_rfl
theorem laidOut : laidOutB Try.prog = true := by kernel_rfl
theorem C_under : ∃ d, Try.prog.underlying 33 = some d ∧ d.isRow = true := ⟨.struct (Try.prog.fieldsOf 33), by kernel_rfl, rfl⟩
theorem csize (c : CallI) : (Try.prog.info? 33).map (·.size) = some c.cells.length := by rw [CallI.length]; kernel_rfl
theorem call_one (c : CallI) : ∀ u ∈ c.cells, u.oneCell' = true := by
  intro u hu
  simp only [CallI.cells, List.mem_cons, List.not_mem_nil, or_false] at hu
  rcases hu with rfl | rfl | rfl | rfl | rfl | rfl <;> rfl
/-- How many bytes a call has. -/
def big (c : CallI) : Nat := c.key.length + c.nonce.length + c.aad.length + c.text.length
def tot (cs : List CallI) : Nat := (cs.map big).foldr (· + ·) 0
theorem tot_cons (c : CallI) (cs : List CallI) : tot (c :: cs) = big c + tot cs := rfl
theorem tot_take (cs : List CallI) (i : Nat) (c : CallI) (h : cs[i]? = some c) : tot (cs.take (i + 1)) = tot (cs.take i) + big c := by
  induction cs generalizing i with
  | nil => cases h
  | cons a cs ih =>
    cases i with
    | zero =>
      simp only [List.getElem?_cons_zero, Option.some.injEq] at h
      subst h
      simp [tot]
    | succ i =>
      rw [List.getElem?_cons_succ] at h
      rw [List.take_succ_cons, List.take_succ_cons, tot_cons, tot_cons, ih i h]; omega
theorem tot_le (cs : List CallI) (i : Nat) : tot (cs.take i) ≤ tot cs := by
  induction cs generalizing i with
  | nil => simp
  | cons a cs ih =>
    cases i with
    | zero => simp [tot]
    | succ i => rw [List.take_succ_cons, tot_cons, tot_cons]; have := ih i; omega
/-- Each call's bytes are no more. -/
theorem tot_mem (cs : List CallI) (c : CallI) (h : c ∈ cs) : big c ≤ tot cs := by
  induction cs with
  | nil => cases h
  | cons a cs ih =>
    rw [tot_cons]
    rcases List.mem_cons.1 h with rfl | h
    · omega
    · have := ih h; omega
theorem row_call {w : World} {A : Option Addr} {cs : List CallI} (h : Row w A (cs.flatMap CallI.cells)) (i : Nat) (c : CallI) (hi : cs[i]? = some c) : ∃ B o, A = some ⟨B, o, none⟩ ∧ w.rangeAt B (o + i * 6) c.cells := by
  have hlen : ∀ cs : List CallI, (cs.flatMap CallI.cells).length = cs.length * 6 := fun cs => by
    induction cs with
    | nil => rfl
    | cons a cs ih => rw [List.flatMap_cons, List.length_append, CallI.length, ih, List.length_cons]; omega
  have hat : ∀ (cs : List CallI) (i k : Nat) (c : CallI), cs[i]? = some c → k < 6 → (cs.flatMap CallI.cells)[i * 6 + k]? = c.cells[k]? := fun cs => by
    induction cs with
    | nil => intro i k c h; cases h
    | cons a cs ih =>
      intro i k c h hk
      rw [List.flatMap_cons]
      cases i with
      | zero =>
        simp only [List.getElem?_cons_zero, Option.some.injEq] at h
        subst h
        rw [List.getElem?_append_left (by rw [CallI.length]; omega)]; congr 1; omega
      | succ i =>
        rw [List.getElem?_append_right (by rw [CallI.length]; omega), CallI.length]
        rw [List.getElem?_cons_succ] at h
        rw [show (i + 1) * 6 + k - 6 = i * 6 + k by omega]
        exact ih i k c h hk
  rcases h with h0 | ⟨B, o, hM, hlt, hc⟩
  · have := congrArg List.length h0
    rw [hlen] at this
    have := (List.getElem?_eq_some_iff.1 hi).1
    simp at *; omega
  · refine ⟨B, o, hM, fun k v hv => ?_⟩
    have hk : k < 6 := (List.getElem?_eq_some_iff.1 hv).1
    have := hc (i * 6 + k) v (by rw [hat cs i k c hi hk]; exact hv)
    rw [← Nat.add_assoc] at this
    exact this
theorem intw (x : Int) (h1 : 0 ≤ x) (h2 : x < 9000000000000000000) : IntKind.i64.wrap x = x := by rw [IntKind.wrap_i64]; omega
theorem ok_sum (x : CallI) (h : x.ok) : IntKind.i64.wrap ((x.key.length : Int) + x.nonce.length) = (x.key.length : Int) + x.nonce.length ∧ IntKind.i64.wrap ((x.key.length : Int) + x.nonce.length + x.aad.length) = (x.key.length : Int) + x.nonce.length + x.aad.length ∧
    IntKind.i64.wrap ((x.key.length : Int) + x.nonce.length + x.aad.length + x.text.length) = (x.key.length : Int) + x.nonce.length + x.aad.length + x.text.length ∧
    ∀ q z : Nat, q ≤ 4096 → z = q + big x → IntKind.i64.wrap ((q : Int) + ((x.key.length : Int) + x.nonce.length + x.aad.length + x.text.length)) = (z : Int) := by
  obtain ⟨_, _, h1, h2, h3, h4⟩ := h
  refine ⟨intw _ (by omega) (by omega), intw _ (by omega) (by omega), intw _ (by omega) (by omega), fun q z hq hz => ?_⟩
  rw [intw _ (by omega) (by omega), hz, big]; omega
set_option maxHeartbeats 1000000 in
set_option maxRecDepth 100000 in
theorem great_any (A : Option Addr) (n c : Nat) (cs : List CallI) (w : World) (hn : cs.length = n) (hr : Row w A (cs.flatMap CallI.cells)) (hok : ∀ c ∈ cs, c.ok) (hm : n ≤ 9223372036854775807) :
    Calls Try.prog 9 #[.slice A n c] w fun e w' => e = .returned (.bool (decide (4096 < tot cs) || decide (40 < n))) ∧ Kp nob w w' := by
  obtain ⟨dT, hdT, hdR⟩ := C_under
  have HDT := Lib.hid hdT; have HDR := Lib.hid hdR
  have HR := Lib.hid hr; have HOK := Lib.hid hok; have HN := Lib.hid hn; have HM := Lib.hid hm
  clear hdT hdR hr hok hn hm
  go_enter Try.func9, Try.ntmps9
  go_wp2
  go_loopw [3, 8] (fun vn vi wr => ∃ i : Nat, i ≤ n ∧ vn = .int .i64 (tot (cs.take i)) ∧ vi = .int .i64 i ∧ tot (cs.take i) ≤ 4096 ∧ Kp nob w wr)
    (fun _ vi _ => n - (intOf vi).toNat)
  case atStart => exact ⟨0, by omega, rfl, rfl, by simp [tot], Kp.refl _ _⟩
  case round =>
    obtain ⟨i, hi, rfl, rfl, hle, hk⟩ := hrel
    have HK := Lib.hid hk; have HLE := Lib.hid hle; have HN2 := HN
    clear hk hle
    by_cases hlt : i < n
    · obtain ⟨x, hx⟩ : ∃ x, cs[i]? = some x := ⟨_, List.getElem?_eq_getElem (by rw [HN.out]; exact hlt)⟩
      obtain ⟨B, o, hA, hr⟩ := row_call HR.out i x hx
      have HS := Lib.hid (range_keep hr HK.out (fun e => e))
      have HX := Lib.hid (tot_take cs i x hx)
      have HOX := Lib.hid (HOK.out x (List.mem_of_getElem? hx))
      subst hA
      clear hr hx
      obtain ⟨q, hq⟩ : ∃ q, q = tot (cs.take i) := ⟨_, rfl⟩
      obtain ⟨z, hz⟩ : ∃ z, z = tot (cs.take (i + 1)) := ⟨_, rfl⟩
      rw [← hq] at HX HLE ⊢
      rw [← hz] at HX
      have HZ := Lib.hid hz; have HQ := Lib.hid hq
      clear hq hz
      have HOB := Lib.hid (ok_sum x HOX.out)
      have e1 : IntKind.i64.wrap ((x.key.length : Int) + x.nonce.length) = (x.key.length : Int) + x.nonce.length := HOB.out.1
      have e2 : IntKind.i64.wrap ((x.key.length : Int) + x.nonce.length + x.aad.length) = (x.key.length : Int) + x.nonce.length + x.aad.length := HOB.out.2.1
      have e3 : IntKind.i64.wrap ((x.key.length : Int) + x.nonce.length + x.aad.length + x.text.length) = (x.key.length : Int) + x.nonce.length + x.aad.length + x.text.length := HOB.out.2.2.1
      have e4 : IntKind.i64.wrap ((q : Int) + ((x.key.length : Int) + x.nonce.length + x.aad.length + x.text.length)) = (z : Int) := HOB.out.2.2.2 q z HLE.out HX.out
      have e5 : IntKind.i64.wrap ((i : Int) + 1) = ((i + 1 : Nat) : Int) := by have := HM.out; rw [IntKind.wrap_i64]; omega
      by_cases hbig : 4096 < z
      case' pos =>
        have d1 : decide ((4096 : Int) < (z : Int)) = true := by simp; omega
      case' neg =>
        have d1 : decide ((4096 : Int) < (z : Int)) = false := by simp; omega
      all_goals
        go_wp2_with (first
          | (refine wpList_load_mid rfl 33 (.tmp 10) rfl B (o + i * 6) rfl x.cells dT HS.out HDT.out HDR.out (csize x) ?_)
          | (refine wpList_store_new rfl 33 (.tmp 5) (.tmp 11) rfl _ x.cells rfl rfl rfl (csize x) (call_one x) ?_
             intro w2 hB2 k2 z2
             have HK2 := Lib.hid (HK.out.trans k2 (fun _ e => e.elim))
             have c1 : w2.cell? ⟨wr.heap.size, 1, none⟩ = some (.string (str x.key)) := by rw [hB2.cell]; rfl
             have c2 : w2.cell? ⟨wr.heap.size, 2, none⟩ = some (.string (str x.nonce)) := by rw [hB2.cell]; rfl
             have c3 : w2.cell? ⟨wr.heap.size, 3, none⟩ = some (.string (str x.aad)) := by rw [hB2.cell]; rfl
             have c4 : w2.cell? ⟨wr.heap.size, 4, none⟩ = some (.string (str x.text)) := by rw [hB2.cell]; rfl
             clear hB2 k2 z2))
      · exact ⟨⟨i + 1, by omega, by rw [HZ.out], rfl, by rw [← HZ.out]; omega, HK2.out⟩, by simp [intOf]; omega⟩
      · go_ret
        have : z ≤ tot cs := by rw [HZ.out]; exact tot_le cs _
        have hd : decide (4096 < tot cs) = true := by simp; omega
        rw [hd]
        exact ⟨rfl, HK2.out⟩
    · obtain rfl : i = n := by omega
      have HT := Lib.hid (show decide (4096 < tot cs) = false by
        have := HLE.out
        rw [List.take_of_length_le (by rw [HN.out]; exact Nat.le_refl _)] at this
        simp; omega)
      go_wp2
      go_ret
      refine ⟨?_, HK.out⟩
      rw [HT.out, Bool.false_or, ← show decide ((40 : Int) < (i : Int)) = decide (40 < i) from decide_eq_decide.2 ⟨fun h => Int.ofNat_lt.1 h, fun h => Int.ofNat_lt.2 h⟩]
      rfl

end Go.Proofs.Ytakhanganifpnaa.Ideal
