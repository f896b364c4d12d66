/- What the statements of layer 11 play: scripts; whether they are great; a write of any bytes anywhere. -/
import Derived.Test.YtfbdjjcnibgjnaaDskL
namespace Go.Proofs.Ytfbdjjcnibgjnaa.Disk
set_option linter.unusedVariables false
set_option linter.unusedSimpArgs false
open Go Go.RowKit Kit

/-- A script's call. -/
structure Cc where
  kind : Int
  i : Int
  A : Option Addr
  n : Nat
  c : Nat
  l : List UInt8
  K : Nat
def Cc.cells (x : Cc) : List Value := [.int .i64 x.kind, .int .i64 x.i, .slice x.A x.n x.c, .int .u64 (x.K : Int)]
theorem Cc.len (x : Cc) : x.cells.length = 4 := rfl
theorem Cc.one (x : Cc) : ∀ u ∈ x.cells, u.oneCell' = true := by
  intro u hu
  simp only [Cc.cells, List.mem_cons, List.not_mem_nil, or_false] at hu
  rcases hu with rfl | rfl | rfl | rfl <;> rfl
/-- What stands of a script's calls. -/
structure CcOk (w : World) (x : Cc) : Prop where
  len : x.l.length = x.n
  row : Row w x.A (bvs x.l)
  K : x.K < 18446744073709551616
  n : x.n ≤ 140737488355328
theorem CcOk.keep0 {w w2 : World} {x : Cc} (h : CcOk w x) (k : Kp nob w w2) : CcOk w2 x := ⟨h.len, h.row.keep0 k, h.K, h.n⟩
theorem ccs_at {w : World} {A : Option Addr} {cs : List Cc} (h : Row w A (cs.flatMap Cc.cells)) (k : Nat) (x : Cc) (hx : cs[k]? = some x) : ∃ b o, A = some ⟨b, o, none⟩ ∧ w.rangeAt b (o + k * 4) x.cells := by
  have hk : k < cs.length := (List.getElem?_eq_some_iff.1 hx).1
  rcases h with h | ⟨b, o, rfl, _, hc⟩
  · have := congrArg List.length h
    rw [fm_length cs (fun a _ => a.len)] at this
    have h9 : cs.length * 4 = 0 := this
    omega
  · refine ⟨b, o, rfl, fun j v hv => ?_⟩
    have := hc (k * 4 + j) v (fm_part cs (fun a _ => a.len) k x hx j v hv)
    rw [← Nat.add_assoc] at this
    exact this
/-- How many bytes there are. -/
def tot (cs : List Cc) : Nat := (cs.map (·.n)).sum
theorem tot_snoc (cs : List Cc) (k : Nat) (x : Cc) (hx : cs[k]? = some x) : tot (cs.take (k + 1)) = tot (cs.take k) + x.n := by
  rw [take_snoc cs k x hx, tot, tot, List.map_append, List.sum_append]
  simp
theorem tot_take (cs : List Cc) (k : Nat) : tot (cs.take k) ≤ tot cs := by
  conv => rhs; rw [← List.take_append_drop k cs]
  rw [tot, tot, List.map_append, List.sum_append]; omega
theorem tot_at (cs : List Cc) (x : Cc) (hx : x ∈ cs) : x.n ≤ tot cs := by
  obtain ⟨k, hk, rfl⟩ := List.mem_iff_getElem.1 hx
  have h1 := tot_snoc cs k _ (List.getElem?_eq_getElem hk)
  have h2 := tot_take cs (k + 1)
  omega
def greatB (cs : List Cc) : Bool := decide (16384 < tot cs) || decide (80 < cs.length)
theorem call_under : Try.prog.underlying 44 = some (.struct (Try.prog.fieldsOf 44)) := by kernel_rfl
theorem call_size (x : Cc) : (Try.prog.info? 44).map (·.size) = some x.cells.length := by rw [x.len]; kernel_rfl
set_option maxHeartbeats 2000000 in
set_option maxRecDepth 100000 in
theorem great_any (A : Option Addr) (n c : Nat) (cs : List Cc) (w : World) (hn : cs.length = n) (hr : Row w A (cs.flatMap Cc.cells)) (hl : ∀ x ∈ cs, x.n ≤ 140737488355328) (hm : n ≤ maxLen) :
    Calls Try.prog 17 #[.slice A n c] w fun e w' => e = .returned (.bool (greatB cs)) ∧ Kp nob w w' := by
  have HN := Lib.hid hn; have HR := Lib.hid hr; have HL := Lib.hid hl
  have hm' : n ≤ 9223372036854775807 := by simpa [maxLen] using hm
  clear hn hr hl hm
  go_enter Try.func17, Try.ntmps17
  go_wp2
  go_loopw [3, 8] (fun vs vi wr => ∃ (k s : Nat), k ≤ n ∧ vi = .int .i64 k ∧ vs = .int .i64 s ∧ s = tot (cs.take k) ∧ s ≤ 16384 ∧ Kp nob w wr)
    (fun _ vi _ => n - (intOf vi).toNat)
  case atStart => exact ⟨0, 0, Nat.zero_le _, rfl, rfl, rfl, Nat.zero_le _, Kp.refl _ _⟩
  case round =>
    obtain ⟨k, s, hk, rfl, rfl, hs, hs2, kr⟩ := hrel
    have HS := Lib.hid hs; have HKr := Lib.hid kr
    clear hs kr
    by_cases hlt : k < n
    · obtain ⟨x, hx⟩ : ∃ x, cs[k]? = some x := ⟨_, List.getElem?_eq_getElem (by rw [HN.out]; exact hlt)⟩
      obtain ⟨b, o, rfl, hrg⟩ := ccs_at (HR.out.keep0 HKr.out) k x hx
      have HRG := Lib.hid hrg
      have HX := Lib.hid (tot_snoc cs k x hx)
      have hxn := HL.out x (List.mem_of_getElem? hx)
      obtain ⟨s1, hs1⟩ : ∃ s1, s1 = s + x.n := ⟨_, rfl⟩
      have HS1 := Lib.hid hs1
      have e1 : IntKind.i64.wrap ((s : Int) + (x.n : Int)) = (s1 : Int) := by rw [IntWalk.i64_in _ (by omega)]; omega
      have HE1 := Lib.hid e1
      obtain ⟨k1, hk1⟩ : ∃ k1, k1 = k + 1 := ⟨_, rfl⟩
      have HE5 := Lib.hid (show IntKind.i64.wrap ((k : Int) + 1) = (k1 : Int) by rw [IntWalk.i64_in _ (by omega)]; omega)
      have HK1 := Lib.hid hk1
      have HM := Lib.hid hm'
      by_cases hg : 16384 < s1
      · have d1 : decide ((16384 : Int) < (s1 : Int)) = true := by simp; omega
        have HG := Lib.hid (show greatB cs = true by
          have h2 := tot_take cs (k + 1)
          rw [HX.out, ← HS.out, ← HS1.out] at h2
          unfold greatB
          rw [decide_eq_true (by omega)]; rfl)
        have HD1 := Lib.hid d1
        clear hx hrg hs1 e1 hxn hk1 hg d1 hs2
        go_wp2_with (first
          | (refine wpList_load_mid rfl 44 (.tmp 10) rfl b (o + k * 4) rfl x.cells _ HRG.out call_under rfl (call_size x) ?_)
          | (refine wpList_store_new rfl 44 (.tmp 5) (.tmp 11) rfl _ x.cells rfl rfl rfl (call_size x) x.one ?_
             intro w5 hB5 k5 z5
             obtain ⟨g5, hg5⟩ : ∃ g, g = wr.heap.size := ⟨_, rfl⟩
             rw [← hg5] at hB5 ⊢
             have c2 : w5.cell? ⟨g5, 2, none⟩ = some (.slice x.A x.n x.c) := by rw [hB5.cell]; rfl
             have HK5 := Lib.hid k5
             have e1 := HE1.out; have d1 := HD1.out
             clear hB5 k5 z5 hg5))
        go_ret
        rw [HG.out]
        exact ⟨rfl, HKr.out.trans HK5.out (fun _ e => e.elim)⟩
      · have d1 : decide ((16384 : Int) < (s1 : Int)) = false := by simp; omega
        have HD1 := Lib.hid d1
        have HG := Lib.hid (show s1 ≤ 16384 by omega)
        clear hx hrg hs1 e1 hxn hk1 hg d1 hs2
        go_wp2_with (first
          | (refine wpList_load_mid rfl 44 (.tmp 10) rfl b (o + k * 4) rfl x.cells _ HRG.out call_under rfl (call_size x) ?_)
          | (refine wpList_store_new rfl 44 (.tmp 5) (.tmp 11) rfl _ x.cells rfl rfl rfl (call_size x) x.one ?_
             intro w5 hB5 k5 z5
             obtain ⟨g5, hg5⟩ : ∃ g, g = wr.heap.size := ⟨_, rfl⟩
             rw [← hg5] at hB5 ⊢
             have c2 : w5.cell? ⟨g5, 2, none⟩ = some (.slice x.A x.n x.c) := by rw [hB5.cell]; rfl
             have HK5 := Lib.hid k5
             have e1 := HE1.out; have d1 := HD1.out; have e5 := HE5.out
             clear hB5 k5 z5 hg5))
        refine ⟨⟨k1, s1, by rw [HK1.out]; exact hlt, rfl, rfl, by rw [HS1.out, HK1.out, HX.out, HS.out], HG.out, HKr.out.trans HK5.out (fun _ e => e.elim)⟩, by have := HK1.out; simp [intOf]; omega⟩
    · obtain rfl : k = n := by omega
      have HG := Lib.hid (show greatB cs = decide (80 < k) by
        have h1 : tot cs = s := by have := HS.out; rw [List.take_of_length_le (by rw [HN.out]; exact Nat.le_refl _)] at this; exact this.symm
        unfold greatB
        rw [h1, HN.out, decide_eq_false (by omega)]; rfl)
      have d1 : decide ((80 : Int) < (k : Int)) = decide (80 < k) := by
        rw [Bool.eq_iff_iff, decide_eq_true_iff, decide_eq_true_iff]; omega
      have HD1 := Lib.hid d1
      clear hlt hk hs2 d1
      go_wp2
      go_ret
      rw [HG.out]
      exact ⟨by rw [← HD1.out]; rfl, HKr.out⟩
/-- A write, whatever it is. -/
theorem write_any (D : Dk) (i : Int) (A : Option Addr) (n c : Nat) (b : List UInt8) (g N S : Nat) (W : Option Addr) (cW : Nat) (w : World) (h : Cd w g N S W cW D) (hn : b.length = n) (hr : Row w A (bvs b)) (hm : n ≤ 140737488355328)
    (hw : D.waits.length ≤ 99999) (ha : D.acts ≤ 1000000000000) (hf : D.fuse ≤ 9223372036854775807) (hk : D.keep < 18446744073709551616) :
    Calls Try.prog 11 #[.pointer (some ⟨g, 0, none⟩), .int .i64 i, .slice A n c] w fun e w' => e = .returned (.int .i64 (write E8 D i b).2) ∧ Dz w g N S W (write E8 D i b).1 w' := by
  by_cases hno : D.off = true ∨ (i < 0 ∨ (D.now.length : Int) ≤ i) ∨ 256 < b.length
  · refine (write_no D i A n c b g N S W cW w h hn hr (by simp [maxLen]; omega) hno).mono ?_
    rintro e w' ⟨rfl, h2, k⟩
    rw [h2]
    exact ⟨rfl, h.self.then k⟩
  · have h1 : D.off = false := by
      cases ho : D.off with
      | false => rfl
      | true => exact absurd (.inl ho) hno
    obtain ⟨p, rfl⟩ : ∃ p : Nat, i = p := ⟨i.toNat, by omega⟩
    exact write_yes D p A n c b g N S W cW w h hn hr h1 (by omega) (by omega) hw ha hf hk
/-- A forgery, whatever it is. -/
theorem forge_any (D : Dk) (i : Int) (A : Option Addr) (n c : Nat) (b : List UInt8) (g N S : Nat) (W : Option Addr) (cW : Nat) (w : World) (h : Cd w g N S W cW D) (hn : b.length = n) (hr : Row w A (bvs b)) (hm : n ≤ 140737488355328) (hw : D.waits.length ≤ 100000) :
    Calls Try.prog 20 #[.pointer (some ⟨g, 0, none⟩), .int .i64 i, .slice A n c] w fun e w' => e = .returned (.int .i64 (forge E8 D i b).2) ∧ Dz w g N S W (forge E8 D i b).1 w' := by
  by_cases hno : (i < 0 ∨ (D.now.length : Int) ≤ i) ∨ 256 < b.length
  · refine (forge_no D i A n c b g N S W cW w h hn hr (by simp [maxLen]; omega) hno).mono ?_
    rintro e w' ⟨rfl, h2, k⟩
    rw [h2]
    exact ⟨rfl, h.self.then k⟩
  · obtain ⟨p, rfl⟩ : ∃ p : Nat, i = p := ⟨i.toNat, by omega⟩
    rw [show forge E8 D (p : Int) b = (forged D p b, 0) by rw [forge, if_neg (by omega), if_neg (by omega), Int.toNat_natCast]; rfl]
    exact forge_yes D p A n c b g N S W cW w h hn hr (by omega) (by omega) hw
/-- A disk that a law plays with: small. -/
structure Sm (D : Dk) (k m : Nat) : Prop where
  acts : D.acts ≤ k
  waits : D.waits.length ≤ k
  fuse : D.fuse ≤ 9223372036854775807
  keep : D.keep < 18446744073709551616
  len : D.now.length = m
theorem Sm.act {D : Dk} {k m : Nat} (h : Sm D k m) : Sm (act D).1 (k + 1) m := by
  cases ho : D.off with
  | true => rw [act_off D ho]; exact ⟨by have := h.acts; show D.acts ≤ _; omega, by have := h.waits; show D.waits.length ≤ _; omega, h.fuse, h.keep, h.len⟩
  | false => rw [act_on D ho]; exact ⟨by have := h.acts; show D.acts + 1 ≤ _; omega, by have := h.waits; show D.waits.length ≤ _; omega, by have := h.fuse; show D.fuse - 1 ≤ _; omega, h.keep, h.len⟩
theorem Sm.lose {D : Dk} {k m : Nat} (h : Sm D k m) (hok : Ok D) (q : Nat) : Sm (lose D q) k m := by
  have hl := lose_length D q hok
  cases ho : D.off with
  | true => rw [lose_off D q ho]; exact h
  | false =>
    refine ⟨?_, ?_, ?_, ?_, by rw [hl, h.len]⟩ <;> rw [lose_on D q ho]
    · exact h.acts
    · exact Nat.zero_le _
    · exact Nat.zero_le _
    · exact h.keep
theorem Sm.write {D : Dk} {k m : Nat} (h : Sm D k m) (hok : Ok D) (i : Int) (b : List UInt8) : Sm (write E8 D i b).1 (k + 1) m := by
  have h0 : Sm D (k + 1) m := ⟨by have := h.acts; omega, by have := h.waits; omega, h.fuse, h.keep, h.len⟩
  unfold Disk.write
  split
  · exact h0
  · split
    · exact h0
    · split
      · exact h0
      · rename_i h1 h2 h3
        have ha := h.act
        have hon := act_on D (by simpa using h1)
        have hw : Sm (wrote (Disk.act D).1 i.toNat b) (k + 1) m := by
          refine ⟨ha.acts, ?_, ha.fuse, ha.keep, by show ((Disk.act D).1.now.set _ _).length = _; rw [List.length_set]; exact ha.len⟩
          show ((Disk.act D).1.waits ++ [_]).length ≤ _
          rw [act_length, List.length_append]
          have := h.waits
          simp; omega
        split
        · exact hw.lose (wrote_ok _ _ _ (act_ok D hok) (by rw [hon]; simp only; omega) (by omega)) _
        · exact hw
theorem Sm.sync {D : Dk} {k m : Nat} (h : Sm D k m) (hok : Ok D) : Sm (sync E8 D).1 (k + 1) m := by
  have h0 : Sm D (k + 1) m := ⟨by have := h.acts; omega, by have := h.waits; omega, h.fuse, h.keep, h.len⟩
  unfold Disk.sync
  split
  · exact h0
  · split
    · exact h.act.lose (act_ok D hok) _
    · exact ⟨h.act.acts, Nat.zero_le _, h.act.fuse, h.act.keep, h.act.len⟩
theorem Sm.forge {D : Dk} {k m : Nat} (h : Sm D k m) (i : Int) (b : List UInt8) : Sm (forge E8 D i b).1 k m := by
  unfold Disk.forge
  split
  · exact h
  · split
    · exact h
    · exact ⟨h.acts, Nat.le_trans (List.length_filter_le _ _) h.waits, h.fuse, h.keep, by show (D.now.set _ _).length = _; rw [List.length_set]; exact h.len⟩
theorem Sm.up {D : Dk} {k m : Nat} (h : Sm D k m) : Sm D (k + 1) m := ⟨by have := h.acts; omega, by have := h.waits; omega, h.fuse, h.keep, h.len⟩
end Go.Proofs.Ytfbdjjcnibgjnaa.Disk
