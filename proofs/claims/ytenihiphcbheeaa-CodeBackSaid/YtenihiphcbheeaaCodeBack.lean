/- CodeBack: what is written is read by the same calls, and nothing is left; with a byte less it isn't. -/
import Derived.Test.YtenihiphcbheeaaCodeG
import Derived.Deep.RegionHeld3
namespace Go.Proofs.Ytenihiphcbheeaa
open Go Go.RowKit Kit

theorem i64_range {n : Int} (h : (Lit.int .i64 n).wf = true) : -9223372036854775808 ≤ n ∧ n ≤ 9223372036854775807 := by
  simp [Lit.wf, IntKind.min, IntKind.max, IntKind.signed, IntKind.bits] at h
  omega
theorem num8_forth (n : Int) (h : -9223372036854775808 ≤ n ∧ n ≤ 9223372036854775807) : wrap64 (lowN (num8 n) : Nat) = n := by
  unfold num8
  rw [lowN_le, show (256 : Nat) ^ 8 = 18446744073709551616 from rfl]
  have := IntKind.wrap_i64 (((n % 18446744073709551616).toNat % 18446744073709551616 : Nat) : Int)
  simp only [wrap64] at *
  omega

/-- What a part's call reads. -/
def backStep (p : PartD) (s : List UInt8 × Bool) : List UInt8 × Bool := if p.kind = 1 then (sText s p.s.size).2 else if p.kind = 2 then (sTake s p.s.size).2 else (sIn s p.n p.n).2
/-- Whether it answers the part. -/
def backSays (p : PartD) (s : List UInt8 × Bool) : Prop := if p.kind = 1 then (sText s p.s.size).1 = sl p.s else if p.kind = 2 then (sTake s p.s.size).1.2 = true ∧ (sTake s p.s.size).1.1 = sl p.s else (sIn s p.n p.n).1 = p.n

theorem sTake_app (a W : List UInt8) (n : Int) (h : (a.length : Int) = n) : sTake (a ++ W, false) n = ((a, true), (W, false)) := by
  subst h
  have hc : can (a ++ W, false) (a.length : Int) = true := by simp [can]; omega
  simp [sTake, hc]
theorem sTake_no (s : List UInt8 × Bool) (n : Int) (h : s.1.length < n ∨ s.2 = true) : sTake s n = (([], false), bust) := by
  have hc : can s n = false := by
    simp only [can, decide_eq_false_iff_not]
    rcases h with h | h
    · omega
    · simp [h]
  simp [sTake, hc]
theorem back_yes (p : PartD) (W : List UInt8) (hs : p.s.size ≤ 32768) (hn : (Lit.int .i64 p.n).wf = true) : backStep p (partB p ++ W, false) = (W, false) ∧ backSays p (partB p ++ W, false) := by
  unfold backStep backSays partB
  by_cases h1 : p.kind = 1
  · simp only [if_pos h1]
    have ht : textB p.s = le 3 p.s.size ++ sl p.s := if_pos (by omega)
    have e1 : sTake (textB p.s ++ W, false) 3 = ((le 3 p.s.size, true), (sl p.s ++ W, false)) := by
      rw [ht, List.append_assoc]; exact sTake_app _ _ _ (by simp)
    have e2 : lowN (le 3 p.s.size) = p.s.size := by rw [lowN_le]; exact Nat.mod_eq_of_lt (by omega)
    have e3 : sTake (sl p.s ++ W, false) (p.s.size : Int) = ((sl p.s, true), (W, false)) := sTake_app _ _ _ (by simp)
    have e4 : sText (textB p.s ++ W, false) p.s.size = (sl p.s, (W, false)) := by
      unfold sText
      rw [e1]
      simp only [e2, e3]
      rw [if_neg (by omega)]
    rw [e4]
    exact ⟨rfl, rfl⟩
  · simp only [if_neg h1]
    by_cases h2 : p.kind = 2
    · simp only [if_pos h2]
      rw [sTake_app (sl p.s) W _ (by simp)]
      exact ⟨rfl, rfl, rfl⟩
    · simp only [if_neg h2]
      have e1 : sNum (num8 p.n ++ W, false) = (p.n, (W, false)) := by
        unfold sNum
        rw [sTake_app (num8 p.n) W 8 (by simp)]
        simp only [num8_forth p.n (i64_range hn)]
      have e2 : sIn (num8 p.n ++ W, false) p.n p.n = (p.n, (W, false)) := by
        unfold sIn
        rw [e1, if_neg (by omega)]
      rw [e2]
      exact ⟨rfl, rfl⟩
theorem back_bust (p : PartD) (s : List UInt8 × Bool) (h : s.2 = true) : (backStep p s).2 = true := by
  unfold backStep
  split
  · unfold sText
    rw [sTake_no s 3 (.inr h)]
    split
    · rfl
    · rw [sTake_no bust _ (.inr rfl)]; rfl
  · split
    · rw [sTake_no s _ (.inr h)]; rfl
    · unfold sIn sNum
      rw [sTake_no s 8 (.inr h)]
      split <;> rfl
theorem back_short (p : PartD) (r : List UInt8) (z : UInt8) (hs : p.s.size ≤ 32768) (h : r ++ [z] = partB p) : (backStep p (r, false)).2 = true := by
  have hl := congrArg List.length h
  simp only [List.length_append, List.length_cons, List.length_nil] at hl
  unfold backStep partB at *
  by_cases h1 : p.kind = 1
  · simp only [if_pos h1] at *
    have ht : textB p.s = le 3 p.s.size ++ sl p.s := if_pos (by omega)
    rw [ht] at hl h
    simp only [List.length_append, le_length, sl_length] at hl
    unfold sText
    by_cases h0 : p.s.size = 0
    · rw [sTake_no (r, false) 3 (.inl (by simp; omega))]
      split
      · rfl
      · rw [sTake_no bust _ (.inr rfl)]; rfl
    · have hr : r = le 3 p.s.size ++ (sl p.s).take (p.s.size - 1) := by
        have h2 := congrArg (List.take r.length) h
        rw [List.take_left' rfl, List.take_append, le_length, List.take_of_length_le (by simp; omega)] at h2
        rw [h2]
        congr 2
        omega
      have e1 : sTake (r, false) 3 = ((le 3 p.s.size, true), ((sl p.s).take (p.s.size - 1), false)) := by rw [hr]; exact sTake_app _ _ _ (by simp)
      have e2 : lowN (le 3 p.s.size) = p.s.size := by rw [lowN_le]; exact Nat.mod_eq_of_lt (by omega)
      rw [e1]
      simp only [e2]
      split
      · rfl
      · rw [sTake_no _ _ (.inl (by simp; omega))]; rfl
  · simp only [if_neg h1] at *
    by_cases h2 : p.kind = 2
    · simp only [if_pos h2] at *
      rw [sl_length] at hl
      rw [sTake_no _ _ (.inl (by simp; omega))]; rfl
    · simp only [if_neg h2] at *
      rw [num8_length] at hl
      unfold sIn sNum
      rw [sTake_no (r, false) 8 (.inl (by simp; omega))]
      split <;> rfl

/-- The inner loop, for a cut of none or one byte. -/
def BackInv (ps : List PartD) (cut k : Nat) (s : List UInt8 × Bool) (same : Bool) : Prop :=
  (cut = 0 ∧ s = (writes (ps.drop k), false) ∧ same = true) ∨ (cut = 1 ∧ (s.2 = true ∨ ∃ z, s.1 ++ [z] = writes (ps.drop k) ∧ s.2 = false))
theorem writes_drop (ps : List PartD) (k : Nat) (p : PartD) (h : ps[k]? = some p) : writes (ps.drop k) = partB p ++ writes (ps.drop (k + 1)) := by
  have hk : k < ps.length := by
    rcases Nat.lt_or_ge k ps.length with h' | h'
    · exact h'
    · rw [List.getElem?_eq_none h'] at h; cases h
  rw [List.getElem?_eq_getElem hk] at h
  rw [List.drop_eq_getElem_cons hk]
  cases h
  rfl
theorem back_next {ps : List PartD} {cut k : Nat} {s : List UInt8 × Bool} {same : Bool} {p : PartD} (h : BackInv ps cut k s same) (hp : ps[k]? = some p) (hs : p.s.size ≤ 32768) (hn : (Lit.int .i64 p.n).wf = true) :
    BackInv ps cut (k + 1) (backStep p s) same ∧ (¬ backSays p s → BackInv ps cut (k + 1) (backStep p s) false) := by
  have hw := writes_drop ps k p hp
  rcases h with ⟨h0, rfl, h2⟩ | ⟨h0, h1⟩
  · rw [hw]
    have := back_yes p (writes (ps.drop (k + 1))) hs hn
    rw [this.1]
    exact ⟨.inl ⟨h0, rfl, h2⟩, fun e => absurd this.2 e⟩
  · have key : (backStep p s).2 = true ∨ ∃ z, (backStep p s).1 ++ [z] = writes (ps.drop (k + 1)) ∧ (backStep p s).2 = false := by
      rcases h1 with h1 | ⟨z, h1, h2⟩
      · exact .inl (back_bust p s h1)
      · obtain ⟨r, bad⟩ := s
        simp only at h1 h2
        subst h2
        rw [hw] at h1
        rcases List.eq_nil_or_concat (writes (ps.drop (k + 1))) with hW | ⟨W', y, hW⟩
        · rw [hW, List.append_nil] at h1
          exact .inl (back_short p r z hs h1)
        · rw [List.concat_eq_append] at hW
          rw [hW, ← List.append_assoc] at h1
          obtain ⟨e1, e2⟩ := List.append_inj' h1 rfl
          subst e1
          have := back_yes p W' hs hn
          rw [this.1, hW]
          exact .inr ⟨y, rfl, rfl⟩
    exact ⟨.inr ⟨h0, key⟩, fun _ => .inr ⟨h0, key⟩⟩
theorem back_end {ps : List PartD} {cut : Nat} {s : List UInt8 × Bool} {same : Bool} (h : BackInv ps cut ps.length s same) : (cut = 0 ∧ s = ([], false) ∧ same = true) ∨ (cut = 1 ∧ s.2 = true) := by
  rw [BackInv, List.drop_length] at h
  rcases h with h | ⟨h0, h1 | ⟨z, h1, _⟩⟩
  · exact .inl h
  · exact .inr ⟨h0, h1⟩
  · simp [writes] at h1
theorem back_start (ps : List PartD) (cut : Nat) (hc : cut ≤ 1) (hl : cut ≤ (writes ps).length) : BackInv ps cut 0 ((writes ps).take ((writes ps).length - cut), false) true := by
  match cut, hc with
  | 0, _ => exact .inl ⟨rfl, by simp, rfl⟩
  | 1, _ =>
    refine .inr ⟨rfl, .inr ?_⟩
    rcases List.eq_nil_or_concat (writes ps) with hW | ⟨W', y, hW⟩
    · rw [hW] at hl; simp at hl
    · rw [List.concat_eq_append] at hW
      exact ⟨y, by simp [hW], rfl⟩

theorem sTake_len (s : List UInt8 × Bool) (n : Int) : (sTake s n).2.1.length ≤ s.1.length := by
  unfold sTake; split <;> simp [bust]
theorem backStep_len (p : PartD) (s : List UInt8 × Bool) : (backStep p s).1.length ≤ s.1.length := by
  unfold backStep
  split
  · unfold sText
    split
    · simp [bust]
    · exact Nat.le_trans (sTake_len _ _) (sTake_len _ _)
  · split
    · exact sTake_len _ _
    · unfold sIn
      split
      · simp [bust]
      · exact sTake_len _ _
theorem RPost.drewn {w w' : World} {b : Nat} {A : Option Addr} {s : List UInt8 × Bool} (h : RPost w b A s w') : RPost w.drew b A s w' := by
  obtain ⟨A', h1, h2, h3⟩ := h
  exact ⟨A', h1, ⟨h2.os, h2.tape, h2.output, h2.size, h2.block⟩, h3⟩

set_option maxHeartbeats 2000000 in
theorem back_great (A : Option Addr) (m d : Nat) (ps : List PartD) (w : World) (hm : ps.length = m) (hp : RowP w A ps) (hd : m ≤ maxLen) (hs : ∀ p ∈ ps, p.s.size ≤ reachBytes) (hg : greatB ps = true) :
    Calls Try.prog 5 #[.slice A m d] w fun e w' => e = .returned (.bool true) ∧ Kp nob w w' := by
  have hgr := fun w1 (k : Kp nob w w1) => great_any A m d ps w1 hm (hp.keep0 k) hd hs
  rw [hg] at hgr
  have HG := Lib.hid hgr; clear hgr hg hs
  go_enter Try.func5, Try.ntmps5
  go_wp2_with fail
  refine (alive_yes _).mono ?_
  rintro e w1 ⟨rfl, s1⟩
  go_wp2_with fail
  refine (HG.out w1 s1).mono ?_
  rintro e w2 ⟨rfl, k2⟩
  go_wp2
  go_ret
  exact ⟨rfl, s1.trans k2 (fun _ e => e.elim)⟩

set_option maxHeartbeats 8000000 in
set_option maxRecDepth 100000 in
theorem back_few (A : Option Addr) (m d : Nat) (ps : List PartD) (w : World) (hm : ps.length = m) (hp : RowP w A ps) (hd : m ≤ maxLen) (hs : ∀ p ∈ ps, p.s.size ≤ reachBytes) (hn : ∀ p ∈ ps, (Lit.int .i64 p.n).wf = true) (hg : greatB ps = false) :
    Calls Try.prog 5 #[.slice A m d] w fun e w' => e = .returned (.bool true) ∧ Kp nob w w' := by
  have hgr := fun w1 (k : Kp nob w w1) => great_any A m d ps w1 hm (hp.keep0 k) hd hs
  rw [hg] at hgr
  have f1 := few_of ps hg
  have F1 := few_great ps hg
  have hL := (writes_take_len ps ps.length F1).1
  rw [List.take_length] at hL
  have hsz := (writes_take_len ps 0 F1).2
  have hm4 : m ≤ 200 := by omega
  have HG := Lib.hid hgr; have H1 := Lib.hid F1; have HS := Lib.hid hsz; have HN := Lib.hid hn
  clear hgr hg hs f1 F1 hsz hn
  go_enter Try.func5, Try.ntmps5
  go_wp2_with fail
  refine (alive_yes _).mono ?_
  rintro e w1 ⟨rfl, s1⟩
  go_wp2_with fail
  refine (HG.out w1 s1).mono ?_
  rintro e w2 ⟨rfl, k2⟩
  have s2 := s1.trans k2 (fun _ e => e.elim)
  go_wp2_with fail
  refine (written_any A m d ps w2 hm (hp.keep0 s2) H1.out).mono ?_
  rintro e w3 ⟨B, c, rfl, ho, nB, zB, k3⟩
  have s3 := s2.trans k3 (fun _ e => e.elim)
  obtain ⟨L, hLe⟩ : ∃ L, L = (writes ps).length := ⟨_, rfl⟩
  rw [← hLe] at ho hL ⊢
  have hcap := ho.cap
  unfold maxLen at hcap
  obtain ⟨hcap1, hcap2⟩ := hcap
  have HLE := Lib.hid hLe; have ZB := Lib.hid zB
  clear hLe zB
  go_wp2
  go_loopw [5] (fun i wr => ∃ cut : Nat, cut ≤ 2 ∧ i = .int .i64 cut ∧ Kp nob w3 wr)
    (fun i _ => 2 - (intOf i).toNat)
  case atStart => exact ⟨0, by omega, rfl, Kp.refl _ _⟩
  case round =>
    obtain ⟨cut, hc2, rfl, ko⟩ := hrel
    by_cases hcc : cut < 2 ∧ cut ≤ L
    · obtain ⟨hca, hcb⟩ := hcc
      obtain ⟨q, hq⟩ : ∃ q : Nat, (L : Int) - (cut : Int) = q := ⟨L - cut, by omega⟩
      have hq2 : q = L - cut := by omega
      have hqL : q ≤ L := by omega
      have hrow : Row wr B (bvs ((writes ps).take q)) := by have := (ho.row.keep0 ko).take q; rwa [bvs, List.map_take]
      have hlen : ((writes ps).take q).length = q := by rw [List.length_take, ← HLE.out]; omega
      have HQ := Lib.hid hq2
      have HLN := Lib.hid hlen
      clear hq2 hlen
      obtain ⟨wo, hwo⟩ : ∃ wo : World, wo = wr := ⟨_, rfl⟩
      rw [← hwo] at ko hrow ⊢
      clear hwo
      go_wp2_with fail
      refine (rRead2 B q c ((writes ps).take q) wo HLN.out (by omega) ZB.out hrow).mono ?_
      rintro e w4 ⟨rb, R4, rfl, r4, k4, n4, u4⟩
      have s4 : Kp nob w w4 := (s3.trans ko (fun _ e => e.elim)).trans k4 (fun _ e => e.elim)
      have hzz3 : w3.heap.size ≤ rb := Nat.le_trans ko.size (n4 rb (.inl rfl))
      have k34 : Kp nob w3 w4 := ko.trans k4 (fun _ e => e.elim)
      have hst := back_start ps cut (by omega) (by rw [← HLE.out]; exact hcb)
      rw [← HLE.out, ← HQ.out] at hst
      go_wp2
      go_loopw [7, 40] (fun sm i wr => ∃ (k : Nat) (same : Bool) (s : List UInt8 × Bool) (R' : Option Addr), k ≤ m ∧ i = .int .i64 k ∧ sm = .bool same ∧ IsR wr rb R' s.1 s.2 ∧ BackInv ps cut k s same ∧ Kp nob w3 wr ∧ s.1.length ≤ 40000)
        (fun _ i _ => m - (intOf i).toNat)
      case atStart => exact ⟨0, true, _, R4, Nat.zero_le _, rfl, rfl, r4, hst, k34, by have := HLN.out; dsimp only; omega⟩
      case round =>
        obtain ⟨k, same, s, R', hk, rfl, rfl, oR, hinv, kr, hsl⟩ := hrel
        have hsl2 : s.1.length ≤ 1099511627776 := by omega
        have HLN2 := Lib.hid hsl2; clear hsl2
        by_cases hlt : k < m
        · obtain ⟨p, hpk⟩ : ∃ p, ps[k]? = some p := ⟨_, List.getElem?_eq_getElem (by omega)⟩
          obtain ⟨bb, oo, hA, hbb, hc0, hc1, hc2', hc3, hc4⟩ := (hp.keep0 (s3.trans kr (fun _ e => e.elim))).at_ (i := k) (by omega)
          have hpe : ps[k]'(by omega) = p := by rw [List.getElem?_eq_getElem (by omega)] at hpk; simpa using hpk
          rw [hpe] at hc0 hc1 hc2' hc3 hc4
          have hmem : p ∈ ps := by rw [← hpe]; exact List.getElem_mem _
          have hps := HS.out p hmem
          have hnx := back_next hinv hpk hps (HN.out p hmem)
          have HX := Lib.hid hnx
          clear hnx hpk hpe hmem hinv
          obtain ⟨O, hO⟩ : ∃ O, O = Obj.cells #[.int .i64 p.kind, .int .i64 p.n, .string p.s, .int .i64 p.lo, .int .i64 p.hi] 39 (0, 0) := ⟨_, rfl⟩
          have oRd : IsR (wr.alloc O).drew rb R' s.1 s.2 := (oR.alloc O).keep (Kp.refl nob _).drew (fun _ _ e => e)
          have hne : wr.heap.size ≠ rb := by have := oR.lt; omega
          have hcs : ∀ w5 (s' : List UInt8 × Bool), RPost (wr.alloc O).drew rb R' s' w5 → w5.cell? ⟨wr.heap.size, 2, none⟩ = some (.string p.s) ∧ w5.cell? ⟨wr.heap.size, 1, none⟩ = some (.int .i64 p.n) := by
            rintro w5 s' ⟨_, _, k5, _⟩
            constructor
            · rw [k5.cell (p := ⟨wr.heap.size, 2, none⟩) (by simp) hne]
              show (wr.alloc O).cell? _ = _
              rw [hO, cell_new]; rfl
            · rw [k5.cell (p := ⟨wr.heap.size, 1, none⟩) (by simp) hne]
              show (wr.alloc O).cell? _ = _
              rw [hO, cell_new]; rfl
          have HCS := Lib.hid hcs; clear hcs
          have fin : ∀ (w5 : World) (ans : Bool), RPost (wr.alloc O).drew rb R' (backStep p s) w5 → (backSays p s → ans = true) →
              ∃ (k' : Nat) (same' : Bool) (s : List UInt8 × Bool) (R' : Option Addr), k' ≤ m ∧ Value.int .i64 (k + 1) = .int .i64 k' ∧ Value.bool (ans && same) = .bool same' ∧ IsR w5 rb R' s.1 s.2 ∧ BackInv ps cut k' s same' ∧ Kp nob w3 w5 ∧ s.1.length ≤ 40000 := by
            rintro w5 ans ⟨R5, r5, k5, a5⟩ hb
            refine ⟨k + 1, ans && same, backStep p s, R5, by omega, by go_num, rfl, r5, ?_, (kr.alloc O).drew.since k5 (fun j e => by unfold oneF at e; omega), Nat.le_trans (backStep_len p s) hsl⟩
            cases ans with
            | true => exact HX.out.1
            | false => exact HX.out.2 (fun e => by have := hb e; cases this)
          have FIN := Lib.hid fin; clear fin
          obtain rfl : A = some ⟨bb, oo, none⟩ := hA
          by_cases e1 : p.kind = 1
          · have hb1 : (p.kind == 1) = true := beq_iff_eq.2 e1
            have hbs : backStep p s = (sText s p.s.size).2 := if_pos e1
            have hsay : backSays p s → ((str (sText s p.s.size).1).toList == p.s.toList) = true := by
              unfold backSays; rw [if_pos e1, str_toList, toList_sl]; intro h; rw [h]; simp
            rw [hbs] at FIN
            have HSAY := Lib.hid hsay
            clear hbs hsay e1
            rw [hO] at oRd
            cases hyn : ((str (sText s p.s.size).1).toList == p.s.toList) with
            | true =>
              go_wp2
              go_region_held3 (fun w' => w'.cell? ⟨wr.heap.size, 2, none⟩ = some (.string p.s)) (first | exact hq2 | go_keep) (first | (go_at_call 19; refine (rText rb R' s p.s.size _ oRd).mono ?_; rintro e w5 ⟨rfl, h5⟩; rw [← hO] at h5; have h5' := h5; obtain ⟨hq2, hq1⟩ := HCS.out w5 _ h5; clear h5))
              all_goals go_wp2
              all_goals exact ⟨FIN.out w5 true h5' (fun _ => rfl), by simp [intOf]; omega⟩
            | false =>
              have HNO := Lib.hid hyn
              go_wp2
              first | go_region_with (first | (go_at_call 19; refine (rText rb R' s p.s.size _ oRd).mono ?_; rintro e w5 ⟨rfl, h5⟩; rw [← hO] at h5; have h5' := h5; obtain ⟨hq2, hq1⟩ := HCS.out w5 _ h5; clear h5)) | fail
              all_goals go_wp2
              all_goals exact ⟨FIN.out w5 false h5' (fun e => by have h1 := HSAY.out e; rw [HNO.out] at h1; exact h1), by simp [intOf]; omega⟩
          · have hb1 : (p.kind == 1) = false := beq_eq_false_iff_ne.2 e1
            by_cases e2 : p.kind = 2
            · have hb2 : (p.kind == 2) = true := beq_iff_eq.2 e2
              have hbs : backStep p s = (sTake s p.s.size).2 := by unfold backStep; rw [if_neg e1, if_pos e2]
              have hsay : backSays p s → ((sTake s p.s.size).1.2 && ((str (sTake s p.s.size).1.1).toList == p.s.toList)) = true := by
                unfold backSays; rw [if_neg e1, if_pos e2, str_toList, toList_sl]; intro h; rw [h.1, h.2]; simp
              rw [hbs] at FIN
              have HSAY := Lib.hid hsay
              have hlen : s.1.length ≤ 1099511627776 := HLN2.out
              clear hbs hsay e1 e2
              have oRa := oR.alloc O
              rw [hO] at oRa
              go_wp2_with fail
              refine (rTake rb R' s p.s.size _ oRa hlen).mono ?_
              rintro e w5 ⟨X, cX, rfl, oX, nX, h5⟩
              rw [← hO] at h5
              have h5' := RPost.drewn h5
              obtain ⟨hq2, hq1⟩ := HCS.out w5 _ h5'
              have hcv := conv_row w5 X _ cX _ rfl oX.row
              clear h5
              cases hok : (sTake s p.s.size).1.2 with
              | false =>
                have HO2 := Lib.hid hok
                go_wp2
                exact ⟨FIN.out w5 false h5' (fun e => by have h1 := HSAY.out e; rw [HO2.out] at h1; exact h1), by simp [intOf]; omega⟩
              | true =>
                have HO2 := Lib.hid hok
                cases hyn : ((str (sTake s p.s.size).1.1).toList == p.s.toList) with
                | true =>
                  have HY2 := Lib.hid hyn
                  go_wp2
                  exact ⟨FIN.out w5 true h5' (fun _ => rfl), by simp [intOf]; omega⟩
                | false =>
                  have HY2 := Lib.hid hyn
                  go_wp2
                  exact ⟨FIN.out w5 false h5' (fun e => by have h1 := HSAY.out e; rw [HO2.out, HY2.out] at h1; exact h1), by simp [intOf]; omega⟩
            · have hb2 : (p.kind == 2) = false := beq_eq_false_iff_ne.2 e2
              have hbs : backStep p s = (sIn s p.n p.n).2 := by unfold backStep; rw [if_neg e1, if_neg e2]
              have hsay : backSays p s → ((sIn s p.n p.n).1 == p.n) = true := by
                unfold backSays; rw [if_neg e1, if_neg e2]; intro h; rw [h]; simp
              rw [hbs] at FIN
              have HSAY := Lib.hid hsay
              clear hbs hsay e1 e2
              rw [hO] at oRd
              cases hyn : ((sIn s p.n p.n).1 == p.n) with
              | true =>
                go_wp2
                go_region_held3 (fun w' => w'.cell? ⟨wr.heap.size, 1, none⟩ = some (.int .i64 p.n)) (first | exact hq1 | go_keep) (first | (go_at_call 23; refine (rIn rb R' s p.n p.n _ oRd).mono ?_; rintro e w5 ⟨rfl, h5⟩; rw [← hO] at h5; have h5' := h5; obtain ⟨hq2, hq1⟩ := HCS.out w5 _ h5; clear h5))
                all_goals go_wp2
                all_goals exact ⟨FIN.out w5 true h5' (fun _ => rfl), by simp [intOf]; omega⟩
              | false =>
                have HNO := Lib.hid hyn
                go_wp2
                first | go_region_with (go_at_call 23; refine (rIn rb R' s p.n p.n _ oRd).mono ?_; rintro e w5 ⟨rfl, h5⟩; rw [← hO] at h5; have h5' := h5; obtain ⟨hq2, hq1⟩ := HCS.out w5 _ h5; clear h5) | fail
                all_goals go_wp2
                all_goals exact ⟨FIN.out w5 false h5' (fun e => by have h1 := HSAY.out e; rw [HNO.out] at h1; exact h1), by simp [intOf]; omega⟩
        · obtain rfl : k = m := by omega
          rw [← hm] at hinv
          rcases back_end hinv with ⟨h0, hs0, hsm⟩ | ⟨h0, hs0⟩
          · subst hsm
            have hb0 : ((cut : Int) == 0) = true := by rw [h0]; rfl
            have hb1 : ((cut : Int) == 1) = false := by rw [h0]; rfl
            have hen := rEnd rb R' s wr oR
            rw [hs0] at hen
            have HE : Calls Try.prog 27 #[.pointer (some ⟨rb, 0, none⟩)] wr fun e w' => e = .returned (.bool true) ∧ wr = w' := hen
            clear hen hs0 hinv h0
            go_wp2_with (go_at_call 27; refine HE.mono ?_; rintro e w' ⟨rfl, rfl⟩)
            exact ⟨⟨cut + 1, by omega, by go_num, kr⟩, by simp [intOf]; omega⟩
          · have hb0 : ((cut : Int) == 0) = false := by rw [h0]; rfl
            have hb1 : ((cut : Int) == 1) = true := by rw [h0]; rfl
            have hen := rEnd rb R' s wr oR
            rw [hs0] at hen
            have HE : Calls Try.prog 27 #[.pointer (some ⟨rb, 0, none⟩)] wr fun e w' => e = .returned (.bool false) ∧ wr = w' := hen
            clear hen hs0 hinv h0
            go_wp2_with (go_at_call 27; refine HE.mono ?_; rintro e w' ⟨rfl, rfl⟩)
            exact ⟨⟨cut + 1, by omega, by go_num, kr⟩, by simp [intOf]; omega⟩
    · by_cases hc : cut < 2
      · have hb1 : decide ((cut : Int) < 2) = true := by simp; omega
        have hb2 : L < cut := by omega
        have hb3 : decide (cut ≤ L) = false := by simp; omega
        clear hc hcc
        go_wp2
        go_ret
        exact ⟨rfl, s3.trans ko (fun _ e => e.elim)⟩
      · have hb1 : decide ((cut : Int) < 2) = false := by simp; omega
        clear hc hcc
        go_wp2
        go_ret
        exact ⟨rfl, s3.trans ko (fun _ e => e.elim)⟩

theorem back_any (A : Option Addr) (m d : Nat) (ps : List PartD) (w : World) (hm : ps.length = m) (hp : RowP w A ps) (hd : m ≤ maxLen) (hs : ∀ p ∈ ps, p.s.size ≤ reachBytes) (hn : ∀ p ∈ ps, (Lit.int .i64 p.n).wf = true) :
    Calls Try.prog 5 #[.slice A m d] w fun e w' => e = .returned (.bool true) ∧ Kp nob w w' := by
  cases hg : greatB ps with
  | true => exact back_great A m d ps w hm hp hd hs hg
  | false => exact back_few A m d ps w hm hp hd hs hn hg
end Go.Proofs.Ytenihiphcbheeaa
