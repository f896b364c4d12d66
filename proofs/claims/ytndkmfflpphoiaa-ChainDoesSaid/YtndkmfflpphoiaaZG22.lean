/- Lemmas: ChaA ChaB ChaN DiskFo. -/
import Derived.Test.YtndkmfflpphoiaaZG14
set_option linter.unusedVariables false
set_option linter.unusedSimpArgs false
namespace Go.Proofs.Ytndkmfflpphoiaa.Disk
open Go Go.RowKit Kit
/-- What stands behind a call of an area: its disk, and itself. -/
def Dma (w : World) (g b : Nat) (F : Nat → Prop) (D : Dk) (a : Ar) (w' : World) : Prop :=
  ∃ (F' : Nat → Prop) (N S W : Option Addr) (cN cS cW : Nat), Dd w' g F' N S W cN cS cW D ∧ (∀ k, F' k → F k ∨ w.heap.size ≤ k) ∧ Da w' b g a ∧ Kp (fun k => F k ∨ k = b) w w'
theorem Dma.far {w w' : World} {g b : Nat} {F F' : Nat → Prop} (h : ∀ k, F' k → F k ∨ w.heap.size ≤ k) (hb : ¬ F b) (hl : b < w.heap.size) : ¬ F' b := fun e => (h b e).elim hb (fun e => by omega)
/-- What a write leaves. -/
theorem write_keeps (d : Dk) (p : Nat) (b : List UInt8) (h : Ok d) (ho : d.off = false) (hp : p < d.now.length) (hb : b.length ≤ 256) :
    Ok (write E8 d p b).1 ∧ (write E8 d p b).1.now.length = d.now.length ∧ (write E8 d p b).1.acts ≤ d.acts + 1 ∧ (write E8 d p b).1.fuse ≤ d.fuse ∧ (write E8 d p b).1.waits.length ≤ d.waits.length + 1 ∧ ((write E8 d p b).2 = 0 → (write E8 d p b).1.off = false) := by
  refine ⟨write_ok E8 d p b h, ?_⟩
  have e : write E8 d (p : Int) b = (if (act d).2 then (lose (wrote (act d).1 p b) d.keep, 8) else (wrote (act d).1 p b, 0)) := by
    rw [write, if_neg (by rw [ho]; decide), if_neg (by omega), if_neg (by omega), Int.toNat_natCast]; rfl
  rw [e, act_on d ho]
  have hw : (wrote { d with acts := d.acts + 1, fuse := d.fuse - 1 } p b).off = false := ho
  by_cases hf : d.fuse = 1
  · simp only [hf, decide_true, if_true]
    rw [hf] at hw
    rw [lose_on _ _ hw]
    refine ⟨?_, Nat.le_refl _, Nat.zero_le _, Nat.zero_le _, fun e => by cases e⟩
    show (over _ 0 _ _).length = _
    rw [over_length]
    exact h.safe
  · simp only [hf, decide_false, Bool.false_eq_true, if_false]
    exact ⟨by simp [wrote], Nat.le_refl _, Nat.sub_le _ _, by simp [wrote], fun _ => ho⟩
def lenS : Value → Nat
  | .string s => s.size
  | _ => 0
theorem str_ne (s : List UInt8) (h : 0 < s.length) : ¬ (str s).toList = [] := by
  rw [str_toList]
  intro e
  rw [e] at h; cases h
theorem str_ne2 (s : List UInt8) (h : 0 < s.length) : (str s).toList.isEmpty = false := by
  rw [str_toList]
  cases s
  · cases h
  · rfl
set_option maxHeartbeats 1000000 in
set_option maxRecDepth 100000 in
theorem fAdd_no (D : Dk) (a : Ar) (s : List UInt8) (b g : Nat) (F : Nat → Prop) (N S W : Option Addr) (cN cS cW : Nat) (w : World) (h : Dd w g F N S W cN cS cW D) (ha : Da w b g a) (hto : a.pos ≤ a.top ∧ a.top ≤ 100000) (hs : s.length ≤ 1099511627776)
    (hno : s.length = 0 ∨ flen s ≠ s.length ∨ D.off = true ∨ 256 * (a.top - a.pos) < s.length) :
    Calls Try.prog 16 #[.pointer (some ⟨b, 0, none⟩), .string (str s)] w fun e w' => e = .returned (.int .i64 (aAdd D a s).2.2) ∧ (aAdd D a s).1 = D ∧ (aAdd D a s).2.1 = a ∧ Kp nob w w' := by
  by_cases h0 : s.length = 0
  · have HA := Lib.hid (show aAdd D a s = (D, a, 1) by rw [aAdd, if_pos (.inl h0)])
    obtain rfl : s = [] := List.eq_nil_of_length_eq_zero h0
    clear h ha hno h0 hs hto
    rw [HA.out]
    show Calls _ _ #[.pointer (some ⟨b, 0, none⟩), .string ⟨#[]⟩] _ _
    go_enter Try.func16, Try.ntmps16
    go_wp2
    go_ret
    exact ⟨rfl, by first | trivial | rfl, by first | trivial | rfl, Kp.refl _ _⟩
  · have hne := str_ne s (by omega)
    have hne2 := str_ne2 s (by omega)
    have hsz := str_size s
    have HL := Lib.hid (fLength s w hs)
    have h1 := h; have a1 := ha
    have HD := Lib.hid h; have HA := Lib.hid ha
    have HN := Lib.hid hno; have HTO := Lib.hid hto; have HS := Lib.hid (And.intro h0 hs)
    obtain ⟨m, hm⟩ : ∃ m, m = flen s := ⟨_, rfl⟩
    have HM := Lib.hid hm
    rw [← hm] at HL
    clear h ha hno hto hm h1 a1 h0 hs
    go_enter Try.func16, Try.ntmps16
    go_wp2_with fail
    refine HL.out.mono ?_
    rintro e w2 ⟨rfl, k2⟩
    have K2 := Lib.hid k2
    have HD2 := Lib.hid (HD.out.keep0 k2)
    have HA2 := Lib.hid (HA.out.keep k2 (fun e => e))
    clear k2 HL HD HA
    by_cases h2 : m = s.length
    · have hmm : ((m : Int) != (s.length : Int)) = false := by rw [h2]; simp
      have hc1 : w2.cell? ⟨b, 0, none⟩ = some (.pointer (some ⟨g, 0, none⟩)) := HA2.out.cell 0
      have hc2 : w2.cell? ⟨b, 1, none⟩ = some (.int .i64 (a.top : Int)) := HA2.out.cell 1
      have hc3 : w2.cell? ⟨b, 2, none⟩ = some (.int .i64 (a.pos : Int)) := HA2.out.cell 2
      have hc4 : w2.cell? ⟨g, 3, none⟩ = some (.bool D.off) := HD2.out.b.cell 3
      by_cases hoff : D.off = true
      · rw [hoff] at hc4
        have HR := Lib.hid (show aAdd D a s = (D, a, 8) by rw [aAdd, if_neg (by rintro (h | h); exact HS.out.1 h; exact h (by rw [← HM.out]; exact h2)), if_pos hoff])
        clear h2 hoff
        go_wp2
        go_ret
        rw [HR.out]
        exact ⟨rfl, by first | trivial | rfl, by first | trivial | rfl, K2.out⟩
      · have hoff' : D.off = false := by simpa using hoff
        rw [hoff'] at hc4
        have hbig : 256 * (a.top - a.pos) < s.length := by
          rcases HN.out with h | h | h | h
          · exact absurd h HS.out.1
          · exact absurd (by rw [← HM.out]; exact h2) h
          · exact absurd h hoff
          · exact h
        have HR := Lib.hid (show aAdd D a s = (D, a, 7) by rw [aAdd, if_neg (by rintro (h | h); exact HS.out.1 h; exact h (by rw [← HM.out]; exact h2)), if_neg hoff, if_pos hbig])
        obtain ⟨x, hx⟩ : ∃ x, x = a.top - a.pos := ⟨_, rfl⟩
        have e1 : IntKind.i64.wrap ((a.top : Int) - (a.pos : Int)) = (x : Int) := by have := HTO.out; rw [IntWalk.i64_in _ (by omega)]; omega
        have e2 : IntKind.i64.wrap (256 * (x : Int)) = 256 * (x : Int) := by have := HTO.out; rw [IntWalk.i64_in _ (by omega)]
        have e3 : decide (256 * (x : Int) < (s.length : Int)) = true := decide_eq_true (by omega)
        clear h2 hoff hoff' hbig hx
        go_wp2_with fail
        go_quiet (fail)
        go_wp2
        go_ret
        rw [HR.out]
        exact ⟨rfl, by first | trivial | rfl, by first | trivial | rfl, by first | exact K2.out | exact K2.out.drew | exact K2.out.drewN _⟩
    · have hmm : ((m : Int) != (s.length : Int)) = true := by simp; omega
      have HR := Lib.hid (show aAdd D a s = (D, a, 1) by rw [aAdd, if_pos (.inr (by rw [← HM.out]; exact h2))])
      clear h2
      go_wp2
      go_ret
      rw [HR.out]
      exact ⟨rfl, by first | trivial | rfl, by first | trivial | rfl, K2.out⟩
theorem aAdd_yes (D : Dk) (a : Ar) (s : List UInt8) (h1 : 0 < s.length) (h2 : flen s = s.length) (hoff : D.off = false) (hroom : s.length ≤ 256 * (a.top - a.pos)) :
    aAdd D a s = if (aAdds D a.pos s).2.2 = 0 then ((aAdds D a.pos s).1, { a with pos := (aAdds D a.pos s).2.1 }, 0) else ((aAdds D a.pos s).1, a, (aAdds D a.pos s).2.2) := by
  rw [aAdd, if_neg (by omega), if_neg (by rw [hoff]; decide), if_neg (by omega)]
theorem cut_to (t : List UInt8) (k : Nat) (hk : k = min 256 t.length) (w : World) : (Instr.slice 9 (.string (str t)) none (some (.int .i64 (k : Int))) none).run Try.prog w = .ok (.string (str (t.take 256))) w := by
  rw [run_slice_string_h w 9 (str t) u8_string .i64 k (by omega) (by rw [str_size]; omega)]
  rw [show (k : Int).toNat = k by omega, str_extract]
  simp only [List.drop_zero, Nat.sub_zero]
  by_cases h : 256 ≤ t.length
  · rw [hk, Nat.min_eq_left h]
  · rw [hk, Nat.min_eq_right (by omega), List.take_of_length_le (Nat.le_refl _), List.take_of_length_le (by omega)]
theorem exec_cutS {a : Act} {o : Oper} {w : World} (x y : Operand) (ho : o.op = .slice 9 x none (some y) none) (p z v : Value) (hx : a.eval x = p) (hy : a.eval y = z) (h : (Instr.slice 9 p none (some z) none).run Try.prog w = .ok v w) : (execOp a.eval o).run Try.prog w = .ok (.value v) w := by
  have h2 : (Instr.sliceAt 9 p none (some z) none).run Try.prog w = .ok v w := by
    rw [run_sliceAt_string _ _ _ _ _ _ u8_string]; exact h
  unfold execOp
  simp only [ho, hx, hy, Option.map_some, Option.map_none, Sem.run_bind, h2, Result.andThen_ok, Sem.run_pure]
theorem cut_from (t : List UInt8) (k : Nat) (hk : k = min 256 t.length) (w : World) : (Instr.slice 9 (.string (str t)) (some (.int .i64 (k : Int))) none none).run Try.prog w = .ok (.string (str (t.drop 256))) w := by
  rw [run_slice_string_l w 9 (str t) u8_string .i64 k (by omega) (by rw [str_size]; omega)]
  rw [show (k : Int).toNat = k by omega, str_extract, str_size]
  rw [List.take_of_length_le (by simp)]
  by_cases h : 256 ≤ t.length
  · rw [hk, Nat.min_eq_left h]
  · rw [hk, Nat.min_eq_right (by omega), List.drop_eq_nil_of_le (Nat.le_refl _), List.drop_eq_nil_of_le (by omega)]
set_option maxHeartbeats 8000000 in
set_option maxRecDepth 100000 in
theorem fAdd_yes (D : Dk) (a : Ar) (s : List UInt8) (b g : Nat) (F : Nat → Prop) (N S W : Option Addr) (cN cS cW : Nat) (w : World) (h : Dd w g F N S W cN cS cW D) (hb : ¬ F b) (ha : Da w b g a) (ho : Ok D) (hto : a.pos ≤ a.top ∧ a.top ≤ D.now.length) (hn : D.now.length ≤ 4096) (hwt : D.waits.length ≤ 90000) (hac : D.acts ≤ 900000000) (hf : D.fuse ≤ 9223372036854775807)
    (h1 : 0 < s.length) (h2 : flen s = s.length) (hoff : D.off = false) (hroom : s.length ≤ 256 * (a.top - a.pos)) :
    Calls Try.prog 16 #[.pointer (some ⟨b, 0, none⟩), .string (str s)] w fun e w' => e = .returned (.int .i64 (aAdd D a s).2.2) ∧ Dma w g b F (aAdd D a s).1 (aAdd D a s).2.1 w' := by
  have hs : s.length ≤ 16384 := by have := flen_cases s; omega
  have hne := str_ne s h1
  have hne2 := str_ne2 s h1
  have hsz := str_size s
  have HL := Lib.hid (fLength s w (by omega))
  rw [h2] at HL
  have hmm : ((s.length : Int) != (s.length : Int)) = false := by simp
  have HAA := Lib.hid (aAdd_yes D a s h1 h2 hoff hroom)
  have HD := Lib.hid h; have HA := Lib.hid ha; have HB := Lib.hid hb
  have HBL := Lib.hid ha.lt
  have HO := Lib.hid ho
  have HZ := Lib.hid (And.intro hto (And.intro hn (And.intro hwt (And.intro hac (And.intro hf (And.intro hs hroom))))))
  have HOF := Lib.hid hoff
  clear h ha hb ho hto hn hwt hac hf h1 h2 hoff hroom hs
  go_enter Try.func16, Try.ntmps16
  go_wp2_with fail
  refine HL.out.mono ?_
  rintro e w2 ⟨rfl, k2⟩
  have K2 := Lib.hid k2
  have HD2 := Lib.hid (HD.out.keep0 k2)
  have HA2 := Lib.hid (HA.out.keep k2 (fun e => e))
  have hc1 : w2.cell? ⟨b, 0, none⟩ = some (.pointer (some ⟨g, 0, none⟩)) := HA2.out.cell 0
  have hc2 : w2.cell? ⟨b, 1, none⟩ = some (.int .i64 (a.top : Int)) := HA2.out.cell 1
  have hc3 : w2.cell? ⟨b, 2, none⟩ = some (.int .i64 (a.pos : Int)) := HA2.out.cell 2
  have hc4 : w2.cell? ⟨g, 3, none⟩ = some (.bool D.off) := HD2.out.b.cell 3
  rw [HOF.out] at hc4
  obtain ⟨x, hx⟩ : ∃ x, x = a.top - a.pos := ⟨_, rfl⟩
  have e1 : IntKind.i64.wrap ((a.top : Int) - (a.pos : Int)) = (x : Int) := by have := HZ.out; rw [IntWalk.i64_in _ (by omega)]; omega
  have e2 : IntKind.i64.wrap (256 * (x : Int)) = 256 * (x : Int) := by have := HZ.out; rw [IntWalk.i64_in _ (by omega)]
  have e3 : decide (256 * (x : Int) < (s.length : Int)) = false := decide_eq_false (by have := HZ.out; omega)
  clear k2 HL hx
  go_wp2_with fail
  go_quiet (fail)
  clear e1 e2 e3 hc1 hc2 hc4 hne hne2 hmm
  rename_i nq
  have hc3 : (w2.drewN nq).cell? ⟨b, 2, none⟩ = some (.int .i64 (a.pos : Int)) := hc3
  have K3 := Lib.hid ((K2.out.drewN nq).nob F)
  have HD3 := Lib.hid (HD.out.keep0 (K2.out.drewN nq))
  clear K2 HD2 HA2
  generalize w2.drewN nq = w3 at *
  go_wp2
  clear hc3 hsz
  go_loopw [1, 5] (fun vs va wr => ∃ (t : List UInt8) (q : Nat) (Dj : Dk) (Fj : Nat → Prop) (Nj Sj Wj : Option Addr) (n1 n2 n3 : Nat), vs = .string (str t) ∧ va = .int .i64 (q : Int) ∧ aAdds D a.pos s = aAdds Dj q t ∧ (t.length ≤ 256 * (a.top - q) ∧ q ≤ a.top ∧ a.pos ≤ q ∧ t.length ≤ 16384) ∧ Ok Dj ∧ Dj.off = false ∧ (Dj.now.length = D.now.length ∧ Dj.waits.length + (a.top - q) ≤ D.waits.length + (a.top - a.pos) ∧ Dj.acts + (a.top - q) ≤ D.acts + (a.top - a.pos) ∧ Dj.fuse ≤ D.fuse) ∧ Dd wr g Fj Nj Sj Wj n1 n2 n3 Dj ∧ (∀ k, Fj k → F k ∨ w.heap.size ≤ k) ∧ Kp F w wr)
    (fun vs _ _ => lenS vs)
  case atStart => exact ⟨s, a.pos, D, F, N, S, W, cN, cS, cW, rfl, rfl, rfl, ⟨HZ.out.2.2.2.2.2.2, HZ.out.1.1, Nat.le_refl _, HZ.out.2.2.2.2.2.1⟩, HO.out, HOF.out, ⟨rfl, Nat.le_refl _, Nat.le_refl _, Nat.le_refl _⟩, HD3.out, fun k e => .inl e, K3.out⟩
  case round =>
    obtain ⟨t, q, Dj, Fj, Nj, Sj, Wj, n1, n2, n3, rfl, rfl, hadd, hbd, hok, hof, hds, hdd, hff, hkk⟩ := hrel
    have HADD := Lib.hid hadd; have HBD := Lib.hid hbd; have HOK := Lib.hid hok; have HOFJ := Lib.hid hof; have HDS := Lib.hid hds; have HDD := Lib.hid hdd; have HFF := Lib.hid hff; have HKK := Lib.hid hkk
    have HAR := Lib.hid (HA.out.keep hkk HB.out)
    have HBF := Lib.hid (show ¬ Fj b from fun e => (hff b e).elim HB.out (fun e => by have := HBL.out; omega))
    have hst := str_size t
    clear hadd hbd hok hof hds hdd hff hkk
    by_cases ht : t.length = 0
    · obtain rfl : t = [] := List.eq_nil_of_length_eq_zero ht
      have HR := Lib.hid (show aAdd D a s = (Dj, { a with pos := q }, 0) by
        rw [HAA.out, HADD.out, aAdds_nil Dj q [] ht]; rfl)
      have hc2 : wr.cell? ⟨b, 2, none⟩ = some (.int .i64 (a.pos : Int)) := HAR.out.cell 2
      have hf2 : wr.frozen? ⟨b, 2, none⟩ = false := HAR.out.frozen 2
      clear ht
      go_wp2
      go_ret
      rw [HR.out]
      have ks : Kp (oneB b) wr (wr.setCell ⟨b, 2, none⟩ (.int .i64 (q : Int))) := (Kp.refl (oneB b) wr).setCell (p := ⟨b, 2, none⟩) (.inl rfl) _
      exact ⟨rfl, Fj, Nj, Sj, Wj, n1, n2, n3, HDD.out.keep ks (fun i e e2 => HBF.out (by have e2 : i = b := e2; rw [← e2]; exact e)), HFF.out, HAR.out.set_ 2 _, (HKK.out.mono (fun i _ e => .inl e)).trans ks (fun i e => .inl (.inr e))⟩
    · have hq : q < a.top := by have := HBD.out; omega
      have HQ := Lib.hid hq
      have HT := Lib.hid (show 0 < t.length by omega)
      have HW := Lib.hid (write_keeps Dj q (t.take 256) HOK.out HOFJ.out (by rw [HDS.out.1]; have := HZ.out.1.2; omega) (by simp; omega))
      have HFW := Lib.hid (show ∀ wx, Kp nob wr wx → Calls Try.prog 39 #[.pointer (some ⟨g, 0, none⟩), .int .i64 (q : Int), .string (str (t.take 256))] wx fun e w' => e = .returned (.int .i64 (write E8 Dj q (t.take 256)).2) ∧ Dm wx g Fj (write E8 Dj q (t.take 256)).1 w' from fun wx kx =>
        fWrite_yes Dj q (t.take 256) g Fj Nj Sj Wj n1 n2 n3 wx (HDD.out.keep0 kx) HOK.out HOFJ.out (by rw [HDS.out.1]; have := HZ.out.1.2; omega) (by simp; omega) (by rw [HDS.out.1]; exact HZ.out.2.1) (by have := HDS.out; have := HZ.out; omega) (by have := HDS.out; have := HZ.out; omega) (by have := HDS.out; have := HZ.out; omega))
      have HEQ := Lib.hid (show aAdds Dj q t = if (write E8 Dj q (t.take 256)).2 = 0 then aAdds (write E8 Dj q (t.take 256)).1 (q + 1) (t.drop 256) else ((write E8 Dj q (t.take 256)).1, q, (write E8 Dj q (t.take 256)).2) by rw [aAdds, if_neg (by omega)])
      obtain ⟨D2, hD2⟩ : ∃ D2, D2 = (write E8 Dj q (t.take 256)).1 := ⟨_, rfl⟩
      obtain ⟨r, hr⟩ : ∃ r, r = (write E8 Dj q (t.take 256)).2 := ⟨_, rfl⟩
      rw [← hD2, ← hr] at HFW HW HEQ
      clear hD2 hr hq ht
      by_cases hbig : 256 < t.length
      · have hb1 : decide ((256 : Int) < (t.length : Int)) = true := decide_eq_true (by omega)
        have hcut := fun wx => cut_to t 256 (by omega) wx
        have hcuf := fun wx => cut_from t 256 (by omega) wx
        have hpos : decide ((0 : Int) < (t.length : Int)) = true := decide_eq_true (by have := HT.out; omega)
        have HCF := Lib.hid hcuf; have HCT := Lib.hid hcut
        clear hcuf hcut
        go_wp2_with fail
        clear hst hb1 hpos
        have HSD : Hid (wr.drew.cell? ⟨b, 0, none⟩ = some (.pointer (some ⟨g, 0, none⟩))) := Lib.hid (HAR.out.cell 0)
        have KD := Lib.hid (show Kp nob wr wr.drew from (Kp.refl nob wr).drew)
        refine reg_begin (fun wx => wx.cell? ⟨b, 0, none⟩ = some (.pointer (some ⟨g, 0, none⟩))) (by kernel_rfl) HSD.out (fun _ => ?_)
        generalize wr.drew = wd at *
        refine reg_take (v := .pointer (some ⟨b, 0, none⟩)) 0 (some 48) rfl rfl (by kernel_rfl) (by kernel_rfl) (by kernel_rfl) (by rfl) HSD.out (fun w hw => by go_simp) ?_
        simp only [Act.put, List.setIfInBounds_toArray, List.set_cons_zero, List.set_cons_succ]
        refine reg_take (v := .pointer (some ⟨b, 0, none⟩)) 1 (some 49) rfl rfl (by kernel_rfl) (by kernel_rfl) (by kernel_rfl) (by rfl) HSD.out (fun w hw => by go_simp) ?_
        simp only [Act.put, List.setIfInBounds_toArray, List.set_cons_zero, List.set_cons_succ]
        refine reg_take (v := .pointer (some ⟨b, 0, none⟩)) 2 (some 50) rfl rfl (by kernel_rfl) (by kernel_rfl) (by kernel_rfl) (by rfl) HSD.out (fun w hw => by go_simp) ?_
        simp only [Act.put, List.setIfInBounds_toArray, List.set_cons_zero, List.set_cons_succ]
        refine reg_take (v := .pointer (some ⟨g, 0, none⟩)) 3 (some 51) rfl rfl (by kernel_rfl) (by kernel_rfl) (by kernel_rfl) (by rfl) HSD.out (fun w hw => by have hc := hw; go_simp) ?_
        simp only [Act.put, List.setIfInBounds_toArray, List.set_cons_zero, List.set_cons_succ]
        refine reg_take (v := .int .i64 (q : Int)) 4 (some 52) rfl rfl (by kernel_rfl) (by kernel_rfl) (by kernel_rfl) (by rfl) HSD.out (fun w hw => by go_simp) ?_
        simp only [Act.put, List.setIfInBounds_toArray, List.set_cons_zero, List.set_cons_succ]
        refine reg_take (v := .string (str t)) 5 (some 53) rfl rfl (by kernel_rfl) (by kernel_rfl) (by kernel_rfl) (by rfl) HSD.out (fun w hw => by go_simp) ?_
        simp only [Act.put, List.setIfInBounds_toArray, List.set_cons_zero, List.set_cons_succ]
        refine reg_take (v := .int .i64 256) 6 (some 54) rfl rfl (by kernel_rfl) (by kernel_rfl) (by kernel_rfl) (by rfl) HSD.out (fun w hw => by go_simp) ?_
        simp only [Act.put, List.setIfInBounds_toArray, List.set_cons_zero, List.set_cons_succ]
        refine reg_take (v := .string (str (t.take 256))) 7 (some 55) rfl rfl (by kernel_rfl) (by kernel_rfl) (by kernel_rfl) (by rfl) HSD.out (fun w hw => by exact exec_cutS (.tmp 53) (.tmp 54) rfl _ _ _ rfl rfl (HCT.out w)) ?_
        simp only [Act.put, List.setIfInBounds_toArray, List.set_cons_zero, List.set_cons_succ]
        refine reg_call 8 (some 56) rfl rfl (by kernel_rfl) (by rfl) _ _ (exec_func 39 _ _ [.pointer (some ⟨g, 0, none⟩), .int .i64 (q : Int), .string (str (t.take 256))] rfl (by kernel_rfl) rfl) ?_
        refine (HFW.out wd KD.out).mono ?_
        rintro e w5 ⟨rfl, F5, N5, S5, W5, p1, p2, p3, hd5, hf5, hk5⟩
        have HD5 := Lib.hid hd5; have HF5 := Lib.hid (show ∀ j, F5 j → F j ∨ w.heap.size ≤ j from fun j e => (hf5 j e).elim (fun e => HFF.out j e) (fun e => .inr (Nat.le_trans HKK.out.size (Nat.le_trans KD.out.size e))))
        have HK5 := Lib.hid (HKK.out.trans ((KD.out.nob Fj).trans hk5 (fun i e => .inl e)) (fun i e => HFF.out i e))
        have HA5 := Lib.hid ((HAR.out.keep KD.out (fun e => e)).keep hk5 HBF.out)
        have HS5 : Hid (w5.cell? ⟨b, 0, none⟩ = some (.pointer (some ⟨g, 0, none⟩))) := Lib.hid (HA5.out.cell 0)
        clear hd5 hf5 hk5 HSD
        refine ⟨_, rfl, HS5.out, fun _ => ?_⟩
        simp only [Act.put, List.setIfInBounds_toArray, List.set_cons_zero, List.set_cons_succ]
        refine reg_take (v := .int .i64 r) 9 (some 7) rfl rfl (by kernel_rfl) (by kernel_rfl) (by kernel_rfl) (by rfl) HS5.out (fun w hw => by go_simp) ?_
        simp only [Act.put, List.setIfInBounds_toArray, List.set_cons_zero, List.set_cons_succ]
        refine reg_end (by kernel_rfl) ?_
        by_cases hr : r = 0
        · subst hr
          rw [if_pos rfl] at HEQ
          obtain ⟨q1, hq1⟩ : ∃ q1, q1 = q + 1 := ⟨_, rfl⟩
          have e5 : IntKind.i64.wrap ((q : Int) + 1) = (q1 : Int) := by have := HQ.out; have := HZ.out; rw [IntWalk.i64_in _ (by omega)]; omega
          have HX := Lib.hid (show (str t).extract 256 t.length = str (t.drop 256) by rw [str_extract, List.take_of_length_le (by simp)])
          have HQ1 := Lib.hid hq1
          clear hq1
          go_wp2
          clear e5
          go_roundw
          case rel => exact ⟨t.drop 256, q1, D2, F5, N5, S5, W5, p1, p2, p3, by first | rfl | rw [HX.out], rfl, by rw [HADD.out, HEQ.out, HQ1.out], (by have := HBD.out; have := HQ.out; have := HQ1.out; rw [List.length_drop]; omega), HW.out.1, HW.out.2.2.2.2.2 rfl, (by have := HW.out; have := HDS.out; have := HQ1.out; have := HQ.out; omega), HD5.out, HF5.out, HK5.out⟩
          case measure => rw [HX.out]; simp only [lenS, str_size, List.length_drop]; have := HT.out; omega
        · have hrn : (r != 0) = true := by simpa using hr
          have HR := Lib.hid (show aAdd D a s = (D2, a, r) by rw [HAA.out, HADD.out, HEQ.out, if_neg hr]; simp only [if_neg hr])
          go_wp2
          go_ret
          rw [HR.out]
          exact ⟨rfl, F5, N5, S5, W5, p1, p2, p3, HD5.out, HF5.out, HA5.out, HK5.out.mono (fun i _ e => .inl e)⟩
      · obtain ⟨k, hk⟩ : ∃ k, k = t.length := ⟨_, rfl⟩
        have hb1 : decide ((256 : Int) < (k : Int)) = false := decide_eq_false (by omega)
        have hcut := fun wx => cut_to t k (by omega) wx
        have hcuf := fun wx => cut_from t k (by omega) wx
        rw [← hk] at hst
        have HT := Lib.hid (show 0 < k by rw [hk]; exact HT.out)
        have hpos : decide ((0 : Int) < (k : Int)) = true := decide_eq_true (by have := HT.out; omega)
        have HCF := Lib.hid hcuf; have HCT := Lib.hid hcut
        clear hcuf hcut
        go_wp2_with fail
        clear hst hb1 hpos
        have HSD : Hid (wr.drew.cell? ⟨b, 0, none⟩ = some (.pointer (some ⟨g, 0, none⟩))) := Lib.hid (HAR.out.cell 0)
        have KD := Lib.hid (show Kp nob wr wr.drew from (Kp.refl nob wr).drew)
        refine reg_begin (fun wx => wx.cell? ⟨b, 0, none⟩ = some (.pointer (some ⟨g, 0, none⟩))) (by kernel_rfl) HSD.out (fun _ => ?_)
        generalize wr.drew = wd at *
        refine reg_take (v := .pointer (some ⟨b, 0, none⟩)) 0 (some 48) rfl rfl (by kernel_rfl) (by kernel_rfl) (by kernel_rfl) (by rfl) HSD.out (fun w hw => by go_simp) ?_
        simp only [Act.put, List.setIfInBounds_toArray, List.set_cons_zero, List.set_cons_succ]
        refine reg_take (v := .pointer (some ⟨b, 0, none⟩)) 1 (some 49) rfl rfl (by kernel_rfl) (by kernel_rfl) (by kernel_rfl) (by rfl) HSD.out (fun w hw => by go_simp) ?_
        simp only [Act.put, List.setIfInBounds_toArray, List.set_cons_zero, List.set_cons_succ]
        refine reg_take (v := .pointer (some ⟨b, 0, none⟩)) 2 (some 50) rfl rfl (by kernel_rfl) (by kernel_rfl) (by kernel_rfl) (by rfl) HSD.out (fun w hw => by go_simp) ?_
        simp only [Act.put, List.setIfInBounds_toArray, List.set_cons_zero, List.set_cons_succ]
        refine reg_take (v := .pointer (some ⟨g, 0, none⟩)) 3 (some 51) rfl rfl (by kernel_rfl) (by kernel_rfl) (by kernel_rfl) (by rfl) HSD.out (fun w hw => by have hc := hw; go_simp) ?_
        simp only [Act.put, List.setIfInBounds_toArray, List.set_cons_zero, List.set_cons_succ]
        refine reg_take (v := .int .i64 (q : Int)) 4 (some 52) rfl rfl (by kernel_rfl) (by kernel_rfl) (by kernel_rfl) (by rfl) HSD.out (fun w hw => by go_simp) ?_
        simp only [Act.put, List.setIfInBounds_toArray, List.set_cons_zero, List.set_cons_succ]
        refine reg_take (v := .string (str t)) 5 (some 53) rfl rfl (by kernel_rfl) (by kernel_rfl) (by kernel_rfl) (by rfl) HSD.out (fun w hw => by go_simp) ?_
        simp only [Act.put, List.setIfInBounds_toArray, List.set_cons_zero, List.set_cons_succ]
        refine reg_take (v := .int .i64 (k : Int)) 6 (some 54) rfl rfl (by kernel_rfl) (by kernel_rfl) (by kernel_rfl) (by rfl) HSD.out (fun w hw => by go_simp) ?_
        simp only [Act.put, List.setIfInBounds_toArray, List.set_cons_zero, List.set_cons_succ]
        refine reg_take (v := .string (str (t.take 256))) 7 (some 55) rfl rfl (by kernel_rfl) (by kernel_rfl) (by kernel_rfl) (by rfl) HSD.out (fun w hw => by exact exec_cutS (.tmp 53) (.tmp 54) rfl _ _ _ rfl rfl (HCT.out w)) ?_
        simp only [Act.put, List.setIfInBounds_toArray, List.set_cons_zero, List.set_cons_succ]
        refine reg_call 8 (some 56) rfl rfl (by kernel_rfl) (by rfl) _ _ (exec_func 39 _ _ [.pointer (some ⟨g, 0, none⟩), .int .i64 (q : Int), .string (str (t.take 256))] rfl (by kernel_rfl) rfl) ?_
        refine (HFW.out wd KD.out).mono ?_
        rintro e w5 ⟨rfl, F5, N5, S5, W5, p1, p2, p3, hd5, hf5, hk5⟩
        have HD5 := Lib.hid hd5; have HF5 := Lib.hid (show ∀ j, F5 j → F j ∨ w.heap.size ≤ j from fun j e => (hf5 j e).elim (fun e => HFF.out j e) (fun e => .inr (Nat.le_trans HKK.out.size (Nat.le_trans KD.out.size e))))
        have HK5 := Lib.hid (HKK.out.trans ((KD.out.nob Fj).trans hk5 (fun i e => .inl e)) (fun i e => HFF.out i e))
        have HA5 := Lib.hid ((HAR.out.keep KD.out (fun e => e)).keep hk5 HBF.out)
        have HS5 : Hid (w5.cell? ⟨b, 0, none⟩ = some (.pointer (some ⟨g, 0, none⟩))) := Lib.hid (HA5.out.cell 0)
        clear hd5 hf5 hk5 HSD
        refine ⟨_, rfl, HS5.out, fun _ => ?_⟩
        simp only [Act.put, List.setIfInBounds_toArray, List.set_cons_zero, List.set_cons_succ]
        refine reg_take (v := .int .i64 r) 9 (some 7) rfl rfl (by kernel_rfl) (by kernel_rfl) (by kernel_rfl) (by rfl) HS5.out (fun w hw => by go_simp) ?_
        simp only [Act.put, List.setIfInBounds_toArray, List.set_cons_zero, List.set_cons_succ]
        refine reg_end (by kernel_rfl) ?_
        by_cases hr : r = 0
        · subst hr
          rw [if_pos rfl] at HEQ
          obtain ⟨q1, hq1⟩ : ∃ q1, q1 = q + 1 := ⟨_, rfl⟩
          have e5 : IntKind.i64.wrap ((q : Int) + 1) = (q1 : Int) := by have := HQ.out; have := HZ.out; rw [IntWalk.i64_in _ (by omega)]; omega
          have HX := Lib.hid (show ByteArray.empty = str (t.drop 256) by rw [List.drop_eq_nil_of_le (by omega)]; rfl)
          have HQ1 := Lib.hid hq1
          clear hq1
          go_wp2
          clear e5
          go_roundw
          case rel => exact ⟨t.drop 256, q1, D2, F5, N5, S5, W5, p1, p2, p3, by first | rfl | rw [HX.out], rfl, by rw [HADD.out, HEQ.out, HQ1.out], (by have := HBD.out; have := HQ.out; have := HQ1.out; rw [List.length_drop]; omega), HW.out.1, HW.out.2.2.2.2.2 rfl, (by have := HW.out; have := HDS.out; have := HQ1.out; have := HQ.out; omega), HD5.out, HF5.out, HK5.out⟩
          case measure => rw [HX.out]; simp only [lenS, str_size, List.length_drop]; have := HT.out; omega
        · have hrn : (r != 0) = true := by simpa using hr
          have HR := Lib.hid (show aAdd D a s = (D2, a, r) by rw [HAA.out, HADD.out, HEQ.out, if_neg hr]; simp only [if_neg hr])
          go_wp2
          go_ret
          rw [HR.out]
          exact ⟨rfl, F5, N5, S5, W5, p1, p2, p3, HD5.out, HF5.out, HA5.out, HK5.out.mono (fun i _ e => .inl e)⟩
theorem aLook_end (ls : List (List UInt8)) (e p f i : Nat) (s : List UInt8) (h : f = 0 ∨ e ≤ p + i) : aLook ls e p f i s = none := by
  cases f with
  | zero => rfl
  | succ f => rw [aLook, if_neg (by omega)]
theorem aLook_go (ls : List (List UInt8)) (e p f i : Nat) (s x : List UInt8) (h : p + i < e) (hx : ls.getD (p + i) [] = x) :
    aLook ls e p (f + 1) i s = if 0 < flen (s ++ x) then some (i, (s ++ x).take (flen (s ++ x))) else aLook ls e p f (i + 1) (s ++ x) := by
  rw [aLook, if_pos h, hx]
set_option maxHeartbeats 8000000 in
set_option maxRecDepth 100000 in
theorem fNext (D : Dk) (a : Ar) (b g : Nat) (F : Nat → Prop) (N S W : Option Addr) (cN cS cW : Nat) (w : World) (h : Dd w g F N S W cN cS cW D) (hb : ¬ F b) (ha : Da w b g a) (ho : Ok D) (hto : a.pos ≤ a.top ∧ a.top ≤ D.now.length) (hn : D.now.length ≤ 4096) :
    Calls Try.prog 18 #[.pointer (some ⟨b, 0, none⟩)] w fun e w' => e = .returned (.tuple #[.string (str (aNext D a).2.1), .int .i64 (aNext D a).2.2]) ∧ Da w' b g (aNext D a).1 ∧ Kp (oneB b) w w' := by
  have hc1 : w.cell? ⟨b, 0, none⟩ = some (.pointer (some ⟨g, 0, none⟩)) := ha.cell 0
  have hc4 : w.cell? ⟨g, 3, none⟩ = some (.bool D.off) := h.b.cell 3
  have HD := Lib.hid h; have HA := Lib.hid ha
  have HZ := Lib.hid (And.intro hto hn); have HO := Lib.hid ho
  cases hoff : D.off with
  | true =>
    have HR := Lib.hid (show aNext D a = (a, [], 8) by rw [aNext, if_pos hoff])
    rw [hoff] at hc4
    clear h hb ha ho hto hn hoff
    go_enter Try.func18, Try.ntmps18
    go_wp2
    go_ret2
    rw [HR.out]
    exact ⟨rfl, HA.out, Kp.refl _ _⟩
  | false =>
    have HR := Lib.hid (show aNext D a = (match aLook D.now a.top a.pos 64 0 [] with
      | some x => ({ a with pos := a.pos + x.1 + 1 }, x.2, 0)
      | none => (a, [], 0)) by rw [aNext, if_neg (by rw [hoff]; decide)]; rfl)
    rw [hoff] at hc4
    clear h hb ha ho hto hn hoff
    go_enter Try.func18, Try.ntmps18
    go_wp2
    clear hc1 hc4
    go_loopw [4, 5] (fun vs vi wr => ∃ (i : Nat) (t : List UInt8), vs = .string (str t) ∧ vi = .int .i64 (i : Int) ∧ i ≤ 64 ∧ aLook D.now a.top a.pos 64 0 [] = aLook D.now a.top a.pos (64 - i) i t ∧ t.length ≤ 256 * i ∧ Kp nob w wr)
      (fun _ vi _ => 64 - (intOf vi).toNat)
    case atStart => exact ⟨0, [], rfl, rfl, Nat.zero_le _, rfl, Nat.le_refl _, Kp.refl _ _⟩
    case round =>
      obtain ⟨i, t, rfl, rfl, hi, hlk, htl, hkp⟩ := hrel
      have HLK := Lib.hid hlk; have HTL := Lib.hid htl; have HKP := Lib.hid hkp; have HI := Lib.hid hi
      have hd2 : wr.cell? ⟨b, 1, none⟩ = some (.int .i64 (a.top : Int)) := (HA.out.keep hkp (fun e => e)).cell 1
      have hd3 : wr.cell? ⟨b, 2, none⟩ = some (.int .i64 (a.pos : Int)) := (HA.out.keep hkp (fun e => e)).cell 2
      have HAR := Lib.hid (HA.out.keep hkp (fun e => e))
      have HDR := Lib.hid (HD.out.keep0 hkp)
      clear hlk htl hkp
      obtain ⟨p, hp⟩ : ∃ p, p = a.pos + i := ⟨_, rfl⟩
      have e1 : IntKind.i64.wrap ((a.pos : Int) + (i : Int)) = (p : Int) := by have := HZ.out; rw [IntWalk.i64_in _ (by omega)]; omega
      have HPP := Lib.hid hp
      by_cases h64 : i = 64
      · have hlt : decide ((i : Int) < 64) = false := decide_eq_false (by omega)
        have hnone := aLook_end D.now a.top a.pos (64 - i) i t (.inl (by omega))
        rw [← HLK.out] at hnone
        rw [hnone] at HR
        clear h64 hi hnone hp
        go_wp2_with fail
        go_quiet (fail)
        go_wp2
        go_ret2
        rw [HR.out]
        exact ⟨rfl, (HAR.out.keep ((Kp.refl nob wr).drewN _) (fun e => e)), ((HKP.out.drewN _).nob _)⟩
      · have hlt : decide ((i : Int) < 64) = true := decide_eq_true (by omega)
        by_cases hin : p < a.top
        · have hin2 : decide (p < a.top) = true := decide_eq_true hin
          obtain ⟨x, hx⟩ : ∃ x, D.now[p]? = some x := ⟨_, List.getElem?_eq_getElem (by have := HZ.out; omega)⟩
          have HGX := Lib.hid (show D.now.getD (a.pos + i) [] = x by rw [← hp, List.getD_eq_getElem?_getD, hx]; rfl)
          have HXL := Lib.hid (HO.out.now x (List.mem_of_getElem? hx))
          have hsv : (svs D.now)[p]? = some (.string (str x)) := by rw [svs, List.getElem?_map, hx]; rfl
          rcases HDR.out.now with hr | ⟨B, o, hNB, hBl, hr⟩
          · rw [hr] at hsv; cases hsv
          subst hNB
          have hrow : wr.cell? ⟨B, o + p, none⟩ = some (.string (str x)) := hr p _ hsv
          have hd0 : wr.cell? ⟨b, 0, none⟩ = some (.pointer (some ⟨g, 0, none⟩)) := HAR.out.cell 0
          have hg0 : wr.cell? ⟨g, 0, none⟩ = some (.slice (some ⟨B, o, none⟩) D.now.length cN) := HDR.out.b.cell 0
          have hpl : p < D.now.length := by have := HZ.out; omega
          have hz : (str t).size + (str x).size ≤ 9223372036854775807 := by rw [str_size, str_size]; have := HTL.out; have := HXL.out; omega
          obtain ⟨u, hu⟩ : ∃ u, u = t ++ x := ⟨_, rfl⟩
          have HUL := Lib.hid (show u.length ≤ 256 * (i + 1) by rw [hu, List.length_append, HXL.out]; have := HTL.out; omega)
          have hap : str t ++ str x = str u := by rw [hu, str_append2]
          have HLG := Lib.hid (show aLook D.now a.top a.pos 64 0 [] = if 0 < flen u then some (i, u.take (flen u)) else aLook D.now a.top a.pos (63 - i) (i + 1) u by
            rw [HLK.out, show 64 - i = (63 - i) + 1 by omega, aLook_go D.now a.top a.pos (63 - i) i t x (by rw [← HPP.out]; exact hin) HGX.out, hu])
          have HFL := Lib.hid (fun wx => fLength u wx (by have := HUL.out; omega))
          have HFC := Lib.hid (flen_cases u)
          obtain ⟨m, hm⟩ : ∃ m, m = flen u := ⟨_, rfl⟩
          rw [← hm] at HLG HFL HFC
          have hsu := str_size u
          have HI6 := Lib.hid (show i < 64 by omega)
          clear hx hsv hr hBl hu hm h64 hp HGX
          go_wp2_with fail
          go_quiet (fail)
          clear hlt hin2
          go_wp2_with fail
          go_quiet (fail)
          clear hrow hd0 hg0 hpl hz hap hd2 hd3 e1 hin
          go_wp2_with fail
          refine (HFL.out _).mono ?_
          rintro e w5 ⟨rfl, k5⟩
          have K5 := Lib.hid (((Kp.refl nob wr).drewN _).trans k5 (fun _ e => e.elim))
          have HA5 := Lib.hid (HAR.out.keep K5.out (fun e => e))
          clear k5 HFL
          by_cases hm : 0 < m
          · have hgm : decide (0 < m) = true := decide_eq_true hm
            have hd0 : w5.cell? ⟨b, 2, none⟩ = some (.int .i64 (a.pos : Int)) := HA5.out.cell 2
            have hf0 : w5.frozen? ⟨b, 2, none⟩ = false := HA5.out.frozen 2
            have hlg := HLG.out
            rw [if_pos hm] at hlg
            rw [hlg] at HR
            have e1 : IntKind.i64.wrap ((a.pos : Int) + (i : Int)) = ((a.pos + i : Nat) : Int) := by have := HZ.out; have := HI.out; rw [IntWalk.i64_in _ (by omega)]; omega
            obtain ⟨p1, hp1⟩ : ∃ p1, p1 = a.pos + i + 1 := ⟨_, rfl⟩
            obtain ⟨p, hp⟩ : ∃ p, p = a.pos + i := ⟨_, rfl⟩
            rw [← hp] at e1 hp1
            have e2 : IntKind.i64.wrap ((p : Int) + 1) = (p1 : Int) := by have := HZ.out; have := HI.out; rw [IntWalk.i64_in _ (by omega)]; omega
            have HP1 := Lib.hid (show a.pos + i + 1 = p1 by omega)
            have hml : m ≤ u.length := by rcases HFC.out with h | h <;> omega
            clear hlg hp hp1 hm
            go_wp2
            go_ret2
            have ks : Kp (oneB b) w5 (w5.setCell ⟨b, 2, none⟩ (.int .i64 (p1 : Int))) := (Kp.refl (oneB b) w5).setCell (p := ⟨b, 2, none⟩) (.inl rfl) _
            rw [HR.out]
            refine ⟨?_, ?_, (((HKP.out.trans K5.out (fun _ e => e.elim)).nob _).trans ks (fun i e => .inl e))⟩
            · rw [str_extract]; simp
            · have := HA5.out.set_ 2 (.int .i64 (p1 : Int))
              show Blk _ b _ [_, _, .int .i64 ((a.pos + i + 1 : Nat) : Int)]
              rw [HP1.out]; exact this
          · obtain rfl : m = 0 := by omega
            have hlg := HLG.out
            rw [if_neg (by omega)] at hlg
            have HL2 := Lib.hid hlg
            obtain ⟨i1, hi1⟩ : ∃ i1, i1 = i + 1 := ⟨_, rfl⟩
            have e2 : IntKind.i64.wrap ((i : Int) + 1) = (i1 : Int) := by have := HI.out; rw [IntWalk.i64_in _ (by omega)]; omega
            have HI1 := Lib.hid hi1
            clear hlg hi1 hm
            go_wp2
            go_roundw
            case rel => exact ⟨i1, u, rfl, rfl, (by have := HI1.out; have := HI6.out; omega), (by rw [HL2.out, HI1.out, show 63 - i = 64 - (i + 1) by omega]), (by rw [HI1.out]; exact HUL.out), HKP.out.trans K5.out (fun _ e => e.elim)⟩
            case measure => have := HI1.out; have := HI6.out; simp [intOf]; omega
        · have hin2 : decide (p < a.top) = false := decide_eq_false hin
          have hnone := aLook_end D.now a.top a.pos (64 - i) i t (.inr (by rw [← HPP.out]; omega))
          rw [← HLK.out] at hnone
          rw [hnone] at HR
          clear h64 hi hnone hp
          go_wp2_with fail
          go_quiet (fail)
          go_wp2
          go_ret2
          rw [HR.out]
          exact ⟨rfl, (HAR.out.keep ((Kp.refl nob wr).drewN _) (fun e => e)), ((HKP.out.drewN _).nob _)⟩
/-- Another row of what is safe, made since. -/
theorem Dd.turnS {w w5 : World} {g : Nat} {F : Nat → Prop} {N S W S2 : Option Addr} {cN cS cW c2 : Nat} {D : Dk} (h : Dd w g F N S W cN cS cW D) (k : Kp nob w w5) (l2 : List (List UInt8)) (hl : l2.length = D.safe.length) (hr : Row w5 S2 (svs l2)) (hc : D.safe.length ≤ c2) (ha : ∀ j, ab S2 = some j → w.heap.size ≤ j ∧ j < w5.heap.size) :
    Dd (w5.setCell ⟨g, 1, none⟩ (.slice S2 D.safe.length c2)) g (fun j => F j ∨ ab S2 = some j) N S2 W cN c2 cW { D with safe := l2 } ∧ Kp F w (w5.setCell ⟨g, 1, none⟩ (.slice S2 D.safe.length c2)) := by
  have h5 := h.keep0 k
  have ks : Kp (oneB g) w5 (w5.setCell ⟨g, 1, none⟩ (.slice S2 D.safe.length c2)) := (Kp.refl (oneB g) w5).setCell (p := ⟨g, 1, none⟩) (.inl rfl) _
  have hg := h.b.lt
  have hne : ∀ j, ab S2 = some j → j ≠ g := fun j e => by have := (ha j e).1; omega
  refine ⟨⟨?_, h5.now.keep ks (fun j e e2 => (h5.fn j e).2 e2), hr.keep ks (fun j e e2 => hne j e e2), h5.waits.keep ks (fun j e e2 => (h5.fw j e).2 e2), ⟨h.caps.1, by show l2.length ≤ c2; omega, h.caps.2.2⟩, fun j e => ⟨.inl (h.fn j e).1, (h.fn j e).2⟩, fun j e => ⟨.inr e, hne j e⟩, fun j e => ⟨.inl (h.fw j e).1, (h.fw j e).2⟩, .inl h.g, ?_⟩, ?_⟩
  · show Blk _ _ _ [_, .slice S2 l2.length c2, _, _, _, _, _]
    rw [hl]; exact h5.b.set_ 1 _
  · intro j e
    have hz := ks.size
    rcases e with e | e
    · exact Nat.lt_of_lt_of_le (h5.lt j e) hz
    · exact Nat.lt_of_lt_of_le (ha j e).2 hz
  · exact (k.nob F).trans ks (fun j e => .inl (by have e : j = g := e; rw [e]; exact h.g))
theorem filt_take (xs : List (Nat × List UInt8)) (p k : Nat) (x : Nat × List UInt8) (h : xs[k]? = some x) : (xs.take (k + 1)).filter (fun x => decide (x.1 ≠ p)) = (xs.take k).filter (fun x => decide (x.1 ≠ p)) ++ (if x.1 = p then [] else [x]) := by
  rw [List.take_add_one, h]
  simp only [Option.toList_some, List.filter_append, List.filter_cons, List.filter_nil]
  by_cases e : x.1 = p <;> simp [e]
set_option maxHeartbeats 1000000 in
set_option maxRecDepth 100000 in
theorem fForge_no (D : Dk) (i : Int) (b : List UInt8) (g : Nat) (F : Nat → Prop) (N S W : Option Addr) (cN cS cW : Nat) (w : World) (h : Dd w g F N S W cN cS cW D) (hno : i < 0 ∨ (D.now.length : Int) ≤ i ∨ 256 < b.length) (hb : b.length ≤ 140737488355328) :
    Calls Try.prog 27 #[.pointer (some ⟨g, 0, none⟩), .int .i64 i, .string (str b)] w fun e w' => e = .returned (.int .i64 (if i < 0 ∨ (D.now.length : Int) ≤ i then 1 else 3)) ∧ w = w' := by
  obtain ⟨c0, c1, c2, c3, c4, c5, c6⟩ := h.cells
  clear c1 c2 c3 c4 c5 c6 h
  have hs := str_size b
  by_cases h1 : i < 0
  · rw [if_pos (.inl h1)]
    go_enter Try.func27, Try.ntmps27
    go_wp2
    go_ret
    exact ⟨rfl, rfl⟩
  · by_cases h2 : (D.now.length : Int) ≤ i
    · rw [if_pos (.inr h2)]
      go_enter Try.func27, Try.ntmps27
      go_wp2
      go_ret
      exact ⟨rfl, rfl⟩
    · rw [if_neg (by omega)]
      have hl : decide ((256 : Int) < (b.length : Int)) = true := decide_eq_true (by omega)
      go_enter Try.func27, Try.ntmps27
      go_wp2
      go_ret
      exact ⟨rfl, rfl⟩
set_option maxHeartbeats 8000000 in
set_option maxRecDepth 100000 in
theorem fForge_yes (D : Dk) (p : Nat) (b : List UInt8) (g : Nat) (F : Nat → Prop) (N S W : Option Addr) (cN cS cW : Nat) (w : World) (h : Dd w g F N S W cN cS cW D) (ho : Ok D) (hp : p < D.now.length) (hb : b.length ≤ 256) (hn : D.now.length ≤ 4096) (hw : D.waits.length ≤ 99999) :
    Calls Try.prog 27 #[.pointer (some ⟨g, 0, none⟩), .int .i64 (p : Int), .string (str b)] w fun e w' => e = .returned (.int .i64 0) ∧ Dm w g F (forged D p b) w' := by
  have HP := Lib.hid (And.intro hp (And.intro hn hw))
  have HOK := Lib.hid ho; have HBL := Lib.hid hb; have HD := Lib.hid h
  have HG := Lib.hid h.g
  have d1 : decide ((256 : Int) < (b.length : Int)) = false := decide_eq_false (by omega)
  have d3 : decide (D.now.length ≤ p) = false := decide_eq_false (by omega)
  have d2 : decide ((p : Int) < 0) = false := decide_eq_false (by omega)
  have hs := str_size b
  obtain ⟨c0, c1, c2, c3, c4, c5, c6⟩ := h.cells
  clear c1 c2 c3 c4 c5 c6 h hp hb hn hw ho
  go_enter Try.func27, Try.ntmps27
  go_upto_region 5 with fail
  clear c0 d1 d2 d3 hs
  go_cut [] from 24 to 34 (fun wx => ∃ (F2 : Nat → Prop) (N2 : Option Addr) (c2 : Nat), Dd wx g F2 N2 S W c2 cS cW { D with now := D.now.set p (full b) } ∧ (∀ j, F2 j → F j ∨ w.heap.size ≤ j) ∧ Kp F w wx)
  case first =>
    have K0 := Lib.hid (Kp.refl F w)
    have K3 := Lib.hid K0.out.drew
    have H3 := Lib.hid (HD.out.keep0 (Kp.refl nob w).drew)
    refine reg_begin (fun _ => True) (by kernel_rfl) trivial (fun _ => ?_)
    have K3d := Lib.hid (show Kp nob w w.drew from (Kp.refl nob w).drew)
    generalize w.drew = w3 at *
    refine reg_take (v := .pointer (some ⟨g, 0, none⟩)) 0 (some 24) rfl rfl (by kernel_rfl) (by kernel_rfl) (by kernel_rfl) (by rfl) trivial (fun w hw => by go_simp) ?_
    simp only [Act.put, List.setIfInBounds_toArray, List.set_cons_zero, List.set_cons_succ]
    refine reg_take (v := .pointer (some ⟨g, 0, none⟩)) 1 (some 25) rfl rfl (by kernel_rfl) (by kernel_rfl) (by kernel_rfl) (by rfl) trivial (fun w hw => by go_simp) ?_
    simp only [Act.put, List.setIfInBounds_toArray, List.set_cons_zero, List.set_cons_succ]
    refine reg_take (v := .pointer (some ⟨g, 0, none⟩)) 2 (some 26) rfl rfl (by kernel_rfl) (by kernel_rfl) (by kernel_rfl) (by rfl) trivial (fun w hw => by go_simp) ?_
    simp only [Act.put, List.setIfInBounds_toArray, List.set_cons_zero, List.set_cons_succ]
    refine reg_take (v := .pointer (some ⟨g, 0, none⟩)) 3 (some 27) rfl rfl (by kernel_rfl) (by kernel_rfl) (by kernel_rfl) (by rfl) trivial (fun w hw => by go_simp) ?_
    simp only [Act.put, List.setIfInBounds_toArray, List.set_cons_zero, List.set_cons_succ]
    refine reg_take (v := .int .i64 (p : Int)) 5 (some 29) rfl rfl (by kernel_rfl) (by kernel_rfl) (by kernel_rfl) (by rfl) trivial (fun w hw => by go_simp) ?_
    simp only [Act.put, List.setIfInBounds_toArray, List.set_cons_zero, List.set_cons_succ]
    refine reg_take (v := .string (str b)) 6 (some 30) rfl rfl (by kernel_rfl) (by kernel_rfl) (by kernel_rfl) (by rfl) trivial (fun w hw => by go_simp) ?_
    simp only [Act.put, List.setIfInBounds_toArray, List.set_cons_zero, List.set_cons_succ]
    have hc3 : w3.cell? ⟨g, 0, none⟩ = some (.slice N D.now.length cN) := H3.out.b.cell 0
    refine reg_orCall (v := .slice N D.now.length cN) (w' := w3) 4 7 (some 28) (some 31) rfl rfl rfl rfl (by kernel_rfl) (by rfl) (by rfl) _ _ (by go_simp) (exec_func 51 _ _ [.string (str b)] rfl (by kernel_rfl) rfl) trivial (fun _ => ?_) ?_
    case' refine_1 =>
      simp only [Act.put, List.setIfInBounds_toArray, List.set_cons_zero, List.set_cons_succ]
      clear hc3
      refine reg_call 7 (some 31) rfl rfl (by kernel_rfl) (by rfl) _ _ (exec_func 51 _ _ [.string (str b)] rfl (by kernel_rfl) rfl) ?_
      refine (fFull b w3 HBL.out).mono ?_
      rintro e w4 ⟨rfl, k4⟩
      have K4 := Lib.hid k4
      clear k4
      refine ⟨_, rfl, trivial, fun _ => ?_⟩
    case' refine_2 =>
      refine (fFull b w3 HBL.out).mono ?_
      rintro e w4 ⟨rfl, k4⟩
      have K4 := Lib.hid k4
      have hc4 : w4.cell? ⟨g, 0, none⟩ = some (.slice N D.now.length cN) := (H3.out.b.keep k4 (fun e => e)).cell 0
      clear k4 hc3
      refine ⟨_, rfl, trivial, fun _ => ?_⟩
      simp only [Act.put, List.setIfInBounds_toArray, List.set_cons_zero, List.set_cons_succ]
      refine reg_step (w' := w4) (v := .slice N D.now.length cN) 4 (some 28) rfl rfl (by kernel_rfl) (by rfl) (by go_simp) trivial (fun _ => ?_)
      clear hc4
    all_goals
      simp only [Act.put, List.setIfInBounds_toArray, List.set_cons_zero, List.set_cons_succ]
      have H4 := Lib.hid (H3.out.keep0 K4.out); have K4d := Lib.hid (K3d.out.trans K4.out (fun _ e => e.elim))
      refine reg_call 8 (some 32) rfl rfl (by kernel_rfl) (by rfl) _ _ (exec_func 47 _ _ [.slice N D.now.length cN, .int .i64 (p : Int), .string (str (full b))] rfl (by kernel_rfl) rfl) ?_
      refine (fput D.now N D.now.length cN p (full b) w4 H4.out.now rfl HP.out.1 ?_).mono ?_
      · first | (have := HP.out.2.1; omega) | (rw [HOK.out.safe]; have := HP.out.2.1; omega)
      rintro e w5 ⟨N2, c2, rfl, hr5, hc5, ha5, k5⟩
      have H5 := Lib.hid (H4.out.keep0 k5)
      have HR5 := Lib.hid hr5; have HC5 := Lib.hid hc5; have HA5 := Lib.hid ha5; have K5 := Lib.hid ((K3d.out.trans K4.out (fun _ e => e.elim)).trans k5 (fun _ e => e.elim))
      clear hr5 hc5 ha5 k5
      refine ⟨_, rfl, trivial, fun _ => ?_⟩
      simp only [Act.put, List.setIfInBounds_toArray, List.set_cons_zero, List.set_cons_succ]
      refine reg_take (v := .pointer (some ⟨g, 0, none⟩)) 9 (some 33) rfl rfl (by kernel_rfl) (by kernel_rfl) (by kernel_rfl) (by rfl) trivial (fun w hw => by go_simp) ?_
      simp only [Act.put, List.setIfInBounds_toArray, List.set_cons_zero, List.set_cons_succ]
      refine reg_take (v := .pointer (some ⟨g, 0, none⟩)) 10 (some 34) rfl rfl (by kernel_rfl) (by kernel_rfl) (by kernel_rfl) (by rfl) trivial (fun w hw => by go_simp) ?_
      simp only [Act.put, List.setIfInBounds_toArray, List.set_cons_zero, List.set_cons_succ]
      have hc6 : w5.cell? ⟨g, 0, none⟩ = some (.slice N D.now.length cN) := H5.out.b.cell 0
      have hf6 : w5.frozen? ⟨g, 0, none⟩ = false := H5.out.b.frozen 0
      refine reg_mute (w' := w5.setCell ⟨g, 0, none⟩ (.slice N2 D.now.length c2)) 11 none rfl rfl (by kernel_rfl) (by rfl) (by go_simp) trivial (fun _ => ?_)
      simp only [Act.put, List.setIfInBounds_toArray, List.set_cons_zero, List.set_cons_succ]
      refine reg_end (by kernel_rfl) ?_
      clear hc6 hf6
      obtain ⟨hq1, hq2⟩ := HD.out.turnN K5.out (D.now.set p (full b)) (List.length_set ..) HR5.out HC5.out (fun j e => ⟨Nat.le_trans K4d.out.size (HA5.out j e).1, (HA5.out j e).2⟩)
      have HQ := Lib.hid (And.intro hq1 hq2)
      clear hq1 hq2
      go_wp2_with fail
      go_meet
      exact ⟨_, N2, c2, HQ.out.1, fun j e => e.elim .inl (fun e => .inr (Nat.le_trans K4d.out.size (HA5.out j e).1)), HQ.out.2⟩
  case rest =>
    obtain ⟨F2, N2, c2, hd2, hf2, hk2⟩ := hcut
    have HD2 := Lib.hid hd2; have HF2 := Lib.hid hf2; have HK2 := Lib.hid hk2
    clear hd2 hf2 hk2
    generalize wc = wa at *
    go_upto_region 6 with fail
    go_cut [] from 35 to 45 (fun wx => ∃ (F3 : Nat → Prop) (S2 : Option Addr) (c3 : Nat), Dd wx g F3 N2 S2 W c2 c3 cW { D with now := D.now.set p (full b), safe := D.safe.set p (full b) } ∧ (∀ j, F3 j → F j ∨ w.heap.size ≤ j) ∧ Kp F w wx)
    case first =>
      have K3 := Lib.hid HK2.out.drew
      have H3 := Lib.hid (HD2.out.keep0 (Kp.refl nob wa).drew)
      refine reg_begin (fun _ => True) (by kernel_rfl) trivial (fun _ => ?_)
      have K3d := Lib.hid (show Kp nob wa wa.drew from (Kp.refl nob wa).drew)
      generalize wa.drew = w3 at *
      refine reg_take (v := .pointer (some ⟨g, 0, none⟩)) 0 (some 35) rfl rfl (by kernel_rfl) (by kernel_rfl) (by kernel_rfl) (by rfl) trivial (fun w hw => by go_simp) ?_
      simp only [Act.put, List.setIfInBounds_toArray, List.set_cons_zero, List.set_cons_succ]
      refine reg_take (v := .pointer (some ⟨g, 0, none⟩)) 1 (some 36) rfl rfl (by kernel_rfl) (by kernel_rfl) (by kernel_rfl) (by rfl) trivial (fun w hw => by go_simp) ?_
      simp only [Act.put, List.setIfInBounds_toArray, List.set_cons_zero, List.set_cons_succ]
      refine reg_take (v := .pointer (some ⟨g, 0, none⟩)) 2 (some 37) rfl rfl (by kernel_rfl) (by kernel_rfl) (by kernel_rfl) (by rfl) trivial (fun w hw => by go_simp) ?_
      simp only [Act.put, List.setIfInBounds_toArray, List.set_cons_zero, List.set_cons_succ]
      refine reg_take (v := .pointer (some ⟨g, 1, none⟩)) 3 (some 38) rfl rfl (by kernel_rfl) (by kernel_rfl) (by kernel_rfl) (by rfl) trivial (fun w hw => by go_simp) ?_
      simp only [Act.put, List.setIfInBounds_toArray, List.set_cons_zero, List.set_cons_succ]
      refine reg_take (v := .int .i64 (p : Int)) 5 (some 40) rfl rfl (by kernel_rfl) (by kernel_rfl) (by kernel_rfl) (by rfl) trivial (fun w hw => by go_simp) ?_
      simp only [Act.put, List.setIfInBounds_toArray, List.set_cons_zero, List.set_cons_succ]
      refine reg_take (v := .string (str b)) 6 (some 41) rfl rfl (by kernel_rfl) (by kernel_rfl) (by kernel_rfl) (by rfl) trivial (fun w hw => by go_simp) ?_
      simp only [Act.put, List.setIfInBounds_toArray, List.set_cons_zero, List.set_cons_succ]
      have hc3 : w3.cell? ⟨g, 1, none⟩ = some (.slice S D.safe.length cS) := H3.out.b.cell 1
      refine reg_orCall (v := .slice S D.safe.length cS) (w' := w3) 4 7 (some 39) (some 42) rfl rfl rfl rfl (by kernel_rfl) (by rfl) (by rfl) _ _ (by go_simp) (exec_func 51 _ _ [.string (str b)] rfl (by kernel_rfl) rfl) trivial (fun _ => ?_) ?_
      case' refine_1 =>
        simp only [Act.put, List.setIfInBounds_toArray, List.set_cons_zero, List.set_cons_succ]
        clear hc3
        refine reg_call 7 (some 42) rfl rfl (by kernel_rfl) (by rfl) _ _ (exec_func 51 _ _ [.string (str b)] rfl (by kernel_rfl) rfl) ?_
        refine (fFull b w3 HBL.out).mono ?_
        rintro e w4 ⟨rfl, k4⟩
        have K4 := Lib.hid k4
        clear k4
        refine ⟨_, rfl, trivial, fun _ => ?_⟩
      case' refine_2 =>
        refine (fFull b w3 HBL.out).mono ?_
        rintro e w4 ⟨rfl, k4⟩
        have K4 := Lib.hid k4
        have hc4 : w4.cell? ⟨g, 1, none⟩ = some (.slice S D.safe.length cS) := (H3.out.b.keep k4 (fun e => e)).cell 1
        clear k4 hc3
        refine ⟨_, rfl, trivial, fun _ => ?_⟩
        simp only [Act.put, List.setIfInBounds_toArray, List.set_cons_zero, List.set_cons_succ]
        refine reg_step (w' := w4) (v := .slice S D.safe.length cS) 4 (some 39) rfl rfl (by kernel_rfl) (by rfl) (by go_simp) trivial (fun _ => ?_)
        clear hc4
      all_goals
        simp only [Act.put, List.setIfInBounds_toArray, List.set_cons_zero, List.set_cons_succ]
        have H4 := Lib.hid (H3.out.keep0 K4.out); have K4d := Lib.hid (K3d.out.trans K4.out (fun _ e => e.elim))
        refine reg_call 8 (some 43) rfl rfl (by kernel_rfl) (by rfl) _ _ (exec_func 47 _ _ [.slice S D.safe.length cS, .int .i64 (p : Int), .string (str (full b))] rfl (by kernel_rfl) rfl) ?_
        refine (fput D.safe S D.safe.length cS p (full b) w4 H4.out.safe rfl (by rw [HOK.out.safe]; exact HP.out.1) ?_).mono ?_
        · first | (have := HP.out.2.1; omega) | (rw [HOK.out.safe]; have := HP.out.2.1; omega)
        rintro e w5 ⟨S2, c3, rfl, hr5, hc5, ha5, k5⟩
        have H5 := Lib.hid (H4.out.keep0 k5)
        have HR5 := Lib.hid hr5; have HC5 := Lib.hid hc5; have HA5 := Lib.hid ha5; have K5 := Lib.hid ((K3d.out.trans K4.out (fun _ e => e.elim)).trans k5 (fun _ e => e.elim))
        clear hr5 hc5 ha5 k5
        refine ⟨_, rfl, trivial, fun _ => ?_⟩
        simp only [Act.put, List.setIfInBounds_toArray, List.set_cons_zero, List.set_cons_succ]
        refine reg_take (v := .pointer (some ⟨g, 0, none⟩)) 9 (some 44) rfl rfl (by kernel_rfl) (by kernel_rfl) (by kernel_rfl) (by rfl) trivial (fun w hw => by go_simp) ?_
        simp only [Act.put, List.setIfInBounds_toArray, List.set_cons_zero, List.set_cons_succ]
        refine reg_take (v := .pointer (some ⟨g, 1, none⟩)) 10 (some 45) rfl rfl (by kernel_rfl) (by kernel_rfl) (by kernel_rfl) (by rfl) trivial (fun w hw => by go_simp) ?_
        simp only [Act.put, List.setIfInBounds_toArray, List.set_cons_zero, List.set_cons_succ]
        have hc6 : w5.cell? ⟨g, 1, none⟩ = some (.slice S D.safe.length cS) := H5.out.b.cell 1
        have hf6 : w5.frozen? ⟨g, 1, none⟩ = false := H5.out.b.frozen 1
        refine reg_mute (w' := w5.setCell ⟨g, 1, none⟩ (.slice S2 D.safe.length c3)) 11 none rfl rfl (by kernel_rfl) (by rfl) (by go_simp) trivial (fun _ => ?_)
        simp only [Act.put, List.setIfInBounds_toArray, List.set_cons_zero, List.set_cons_succ]
        refine reg_end (by kernel_rfl) ?_
        clear hc6 hf6
        obtain ⟨hq1, hq2⟩ := HD2.out.turnS K5.out (D.safe.set p (full b)) (List.length_set ..) HR5.out HC5.out (fun j e => ⟨Nat.le_trans K4d.out.size (HA5.out j e).1, (HA5.out j e).2⟩)
        have HQ := Lib.hid (And.intro hq1 hq2)
        clear hq1 hq2
        go_wp2_with fail
        go_meet
        exact ⟨_, S2, c3, HQ.out.1, fun j e => e.elim (fun e => HF2.out j e) (fun e => .inr (Nat.le_trans (Nat.le_trans HK2.out.size K4d.out.size) (HA5.out j e).1)), HK2.out.trans HQ.out.2 (fun i e => HF2.out i e)⟩
    case rest =>
      obtain ⟨F3, S2, c3, hd3, hf3, hk3⟩ := hcut
      have HD3 := Lib.hid hd3; have HF3 := Lib.hid hf3; have HK3 := Lib.hid hk3
      clear hd3 hf3 hk3 HD2 HF2 HK2
      generalize wc = wb at *
      obtain ⟨n, hn⟩ : ∃ n, n = D.waits.length := ⟨_, rfl⟩
      have hcw : wb.cell? ⟨g, 2, none⟩ = some (.slice W n cW) := by rw [hn]; exact HD3.out.b.cell 2
      obtain ⟨i0, hi0, hz0, hz1, hz2⟩ := info_parts3 fw_info
      have HI := Lib.hid (And.intro hi0 (And.intro hz0 (And.intro hz1 hz2)))
      have HN := Lib.hid hn
      have hnw : n ≤ 99999 := by rw [hn]; exact HP.out.2.2
      clear hi0 hz0 hz1 hz2 hn
      go_upto_region 9 with fail
      clear hcw
      go_loopw [7, 51] (fun vo vi wr => ∃ (k q : Nat) (M : Option Addr) (cM : Nat), k ≤ n ∧ vi = .int .i64 k ∧ vo = .slice M q cM ∧ ((D.waits.take k).filter (fun x => decide (x.1 ≠ p))).length = q ∧ q ≤ k ∧ OwnZ 82 2 wr M q cM (wcs ((D.waits.take k).filter (fun x => decide (x.1 ≠ p)))) ∧ (∀ j, ab M = some j → wb.heap.size ≤ j) ∧ Kp nob wb wr)
        (fun _ vi _ => n - (intOf vi).toNat)
      case atStart => exact ⟨0, 0, none, 0, Nat.zero_le _, rfl, rfl, rfl, Nat.le_refl _, World.ownsRow_nil wb 0 _ 2, (fun j e => by cases e), Kp.refl _ _⟩
      case round =>
        obtain ⟨k, q, M, cM, hk, rfl, rfl, hql, hqk, hm, hfm, hkp⟩ := hrel
        have HM := Lib.hid hm; have HFM := Lib.hid hfm; have HKP := Lib.hid hkp; have HQL := Lib.hid hql
        clear hm hfm hkp hql
        by_cases hlt : k < n
        · obtain ⟨x, hx⟩ : ∃ x, D.waits[k]? = some x := ⟨_, List.getElem?_eq_getElem (by rw [← HN.out]; exact hlt)⟩
          obtain ⟨B, o, rfl, hrg⟩ := wcs_row (HD3.out.waits.keep0 HKP.out) k x hx
          have HRG := Lib.hid hrg
          have HFT := Lib.hid (filt_take D.waits p k x hx)
          clear hx hrg
          obtain ⟨k1, hk1⟩ : ∃ k1, k1 = k + 1 := ⟨_, rfl⟩
          have HE5 := Lib.hid (show IntKind.i64.wrap ((k : Int) + 1) = (k1 : Int) by rw [IntWalk.i64_in _ (by omega)]; omega)
          have HK1 := Lib.hid hk1
          rw [← hk1] at HFT
          clear hk1
          by_cases hxp : x.1 = p
          · rw [if_pos hxp, List.append_nil] at HFT
            have HXP := Lib.hid hxp
            go_wp2_with (first
              | (refine wpList_load_mid rfl 82 (.tmp 53) rfl B (o + k * 2) rfl (Disk.wc x) _ HRG.out wU rfl (by rw [wc_length]; kernel_rfl) ?_)
              | (refine wpList_store_new rfl 82 (.tmp 9) (.tmp 54) rfl _ (Disk.wc x) rfl rfl rfl (by rw [wc_length]; kernel_rfl) (wc_one x) ?_
                 intro w5 hB5 k5 z5
                 have HK5 := Lib.hid k5
                 have hc5 : w5.cell? ⟨wr.heap.size, 0, none⟩ = some (.int .i64 (p : Int)) := by have := hB5.cell 0; rw [this, ← HXP.out]; rfl
                 have e5 := HE5.out
                 clear hB5 k5 z5)
              | fail)
            try clear hc5
            try clear e5
            go_roundw
            case rel => exact ⟨k1, q, M, cM, by rw [HK1.out]; omega, rfl, rfl, by rw [HFT.out]; exact HQL.out, by rw [HK1.out]; omega, by rw [HFT.out]; exact HM.out.keep HK5.out (fun _ _ e => e), HFM.out, HKP.out.trans HK5.out (fun _ e => e.elim)⟩
            case measure => have := HK1.out; simp [intOf]; omega
          · rw [if_neg hxp] at HFT
            have hne : ((x.1 : Int) != (p : Int)) = true := by simp; omega
            have HXP := Lib.hid hne
            clear hne hxp
            go_wp2_with (first
              | (refine wpList_load_mid rfl 82 (.tmp 53) rfl B (o + k * 2) rfl (Disk.wc x) _ HRG.out wU rfl (by rw [wc_length]; kernel_rfl) ?_)
              | (refine wpList_store_new rfl 82 (.tmp 9) (.tmp 54) rfl _ (Disk.wc x) rfl rfl rfl (by rw [wc_length]; kernel_rfl) (wc_one x) ?_
                 intro w5 hB5 k5 z5
                 have HK5 := Lib.hid k5; have HB5 := Lib.hid (show Blk w5 wr.heap.size 82 [.int .i64 (x.1 : Int), .string (str x.2)] from hB5)
                 have hc5 : w5.cell? ⟨wr.heap.size, 0, none⟩ = some (.int .i64 (x.1 : Int)) := hB5.cell 0
                 have e5 := HE5.out; have hne := HXP.out
                 clear hB5 k5 z5)
              | (refine wpList_load_blk rfl 82 (.tmp 9) rfl _ _ _ HB5.out rfl _ wU rfl (by kernel_rfl) ?_)
              | (at_builtin; refine wpList_appZ _ rfl (.tmp 59) (.tmp 61) 48 rfl 82 i0 _ 2 24 fw_under HI.out.1 HI.out.2.1 HI.out.2.2.1 HI.out.2.2.2 rfl (by decide) M q cM (wcs ((D.waits.take k).filter (fun x => decide (x.1 ≠ p)))) rfl (HM.out.keep (HK5.out.alloc (.cells #[.int .i64 (x.1 : Int), .string (str x.2)] 82)) (fun _ _ e => e)) (some ⟨w5.heap.size, 0, none⟩) 1 1 (Disk.wc x) rfl (fun e => by cases e) rfl (show Row (w5.alloc (.cells #[.int .i64 (x.1 : Int), .string (str x.2)] 82)) (some ⟨w5.heap.size, 0, none⟩) (Disk.wc x) from row_new w5 (Disk.wc x) _) (wc_one x) (by omega) (by omega) ?_
                 intro M2 c5 w6 hM hgM habM
                 have HM6 := Lib.hid hM; have HK6 := Lib.hid ((HKP.out.trans (HK5.out.alloc (.cells #[.int .i64 (x.1 : Int), .string (str x.2)] 82)) (fun _ e => e.elim)).grown hgM (fun j e => .inr (HFM.out j e)))
                 have HFM6 := Lib.hid (show ∀ j, ab M2 = some j → wb.heap.size ≤ j from fun j e => by
                   rcases habM with h | h
                   · rw [h] at e; exact HFM.out j e
                   · rw [h] at e; cases e; exact Nat.le_trans (Nat.le_trans HKP.out.size HK5.out.size) ((Kp.refl nob w5).alloc (.cells #[.int .i64 (x.1 : Int), .string (str x.2)] 82)).size)
                 clear hM hgM habM)
              | fail)
            try clear hc5
            try clear e5
            try clear hne
            go_roundw
            case rel => exact ⟨k1, q + 1, M2, c5, by rw [HK1.out]; omega, rfl, rfl, by rw [HFT.out, List.length_append, HQL.out]; rfl, by rw [HK1.out]; omega, by rw [HFT.out, wcs_snoc]; exact HM6.out, HFM6.out, HK6.out⟩
            case measure => have := HK1.out; simp [intOf]; omega
        · obtain rfl : k = n := by omega
          have htk : D.waits.take k = D.waits := List.take_of_length_le (by rw [HN.out]; exact Nat.le_refl _)
          rw [htk] at HM HQL
          have HT := Lib.hid (HD3.out.turnW HKP.out (D.waits.filter (fun x => decide (x.1 ≠ p))) (n2 := q) HQL.out HM.out.row HM.out.cap.1 (fun j e => ⟨HFM.out j e, HM.out.lt j e⟩))
          have hc9 : wr.cell? ⟨g, 2, none⟩ = some (.slice W D.waits.length cW) := (HD3.out.keep0 HKP.out).b.cell 2
          have hf9 : wr.frozen? ⟨g, 2, none⟩ = false := (HD3.out.keep0 HKP.out).b.frozen 2
          go_wp2
          go_ret
          exact ⟨rfl, _, _, _, _, _, _, _, HT.out.1, fun j e => e.elim (fun e => HF3.out j e) (fun e => .inr (Nat.le_trans HK3.out.size (HFM.out j e))), HK3.out.trans HT.out.2 (fun i e => HF3.out i e)⟩
end Go.Proofs.Ytndkmfflpphoiaa.Disk
