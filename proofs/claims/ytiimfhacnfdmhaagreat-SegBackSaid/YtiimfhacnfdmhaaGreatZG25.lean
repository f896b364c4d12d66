/- Lemmas: VauN VauX VauY SegC RegVt SegK. -/
import Derived.Test.YtiimfhacnfdmhaaGreatZG24b
set_option linter.unusedVariables false
set_option linter.unusedSimpArgs false
namespace Go.Proofs.YtiimfhacnfdmhaaGreat.Vault
open Go Go.RowKit Kit
open Ideal (Arg)
theorem sealed_under : Tryz.prog.underlying 81 = some (.map 157 42) := by kernel_rfl
theorem sl_zero (w : World) : (zeroValue 42).run Tryz.prog w = .ok (.slice none 0 0) w := by kernel_rfl
theorem place_sz (p : Pl) : (Tryz.prog.info? 157).map (·.size) = some (bvs p.1).length := by rw [bvs_length, p.2]; kernel_rfl
def dift (a b : List UInt8) : Bool := decide (a ≠ b)
theorem vs_put {F : Nat → Prop} {w w' : World} {v m : Nat} {mk : Value} {ms : List UInt8} {lim : Nat} {sx : List (Pl × (Value × List UInt8))} {cl cl' : Nat} {p : Pl} {x : Value} {t : List UInt8} (hv : Vb w v m mk ms lim (ents (·.1) sx) cl) (hnd : (sx.map (·.1)).Nodup) (hk : ∀ q ∈ sx, Kpt F w v m q.2.1 q.2.2)
    (hb : Blk w' v 83 (vcells mk ms lim m cl')) (hm : MapB w' m (ents (·.1) (upd sx p (x, t)))) (k : Kp (vF v m) w w') (hx : Kpt F w' v m x t) : Vs F w' v m mk ms lim (upd (sx.map fun q => (q.1, q.2.2)) p t) cl' := by
  refine ⟨upd sx p (x, t), upd_map (fun y : Value × List UInt8 => y.2) sx p (x, t), ⟨hb, hv.l, hm, hv.ne⟩, upd_keys _ _ _ hnd, fun q hq => ?_⟩
  rcases upd_mem _ _ _ _ hq with h | h
  · exact (hk q h).keep k (fun i e => .inr e)
  · rw [h]; exact hx
set_option maxHeartbeats 4000000 in
set_option maxRecDepth 100000 in
theorem note_any : NoteC dift (fun _ => True) := by
  intro F v m mk ms lim sl cl p T n c text w _ hv hF ha hc hl
  obtain ⟨sx, rfl, hvb, hnd, hk⟩ := hv
  show Calls Tryz.prog 91 #[.pointer (some ⟨v, 0, none⟩), .agg (bvs p.1).toArray, .slice T n c] w _
  have hlm := last_map (fun y : Value × List UInt8 => y.2) sx p
  have HL := fun (w' : World) (h : MapB w' m (ents (·.1) sx)) => look_last (P := Tryz.prog) place_keys sealed_under (·.1) w' (sl_zero w') m sx p h hnd
  have HST := Lib.hid (fun (w' : World) (x : Value × List UInt8) (h : MapB w' m (ents (·.1) sx)) => store_upd (P := Tryz.prog) place_keys sealed_under (·.1) w' m sx p x h hnd)
  have HND := Lib.hid hnd
  have HV := Lib.hid hvb; have HA := Lib.hid ha; have HK := Lib.hid hk
  have hml : m < w.heap.size := hvb.s.lt
  have HB0 : Hid (Kp nob w (w.alloc (.cells (bvs p.1).toArray 157)).drew ∧ Blk (w.alloc (.cells (bvs p.1).toArray 157)).drew w.heap.size 157 (bvs p.1)) := Lib.hid ⟨((Kp.refl nob w).alloc _).drew, (Blk.new w 157 (bvs p.1)).keep (Kp.refl nob _).drew (fun e => e)⟩
  have HPS := Lib.hid (place_sz p)
  have HLT := Lib.hid (And.intro hvb.b.lt hml)
  have HCL : Hid (text.length = n ∧ n ≤ 1099511627776) := Lib.hid ⟨ha.len, by have := ha.len; omega⟩
  have HFL := Lib.hid hF
  have HC34 := Lib.hid (fun (w' : World) (k : Nat) (h : Blk w' v 83 (vcells mk ms lim m k)) => (show w'.cell? ⟨v, 34, none⟩ = some (.map (some m)) by rw [h.cell]; exact vcells_at mk ms lim m k 1 hvb.l))
  have HCC := Lib.hid hc
  cases hls : last sx p with
  | none =>
    have HL2 : Hid (∀ w', MapB w' m (ents (·.1) sx) → (Instr.lookup 81 (.map (some m)) (pv p) true).run Tryz.prog w' = .ok (.tuple #[.slice none 0 0, .bool false]) w') := Lib.hid (fun w' h => by have := HL w' h; rw [hls] at this; exact this)
    have HCS : Hid (clash dift (sx.map fun q => (q.1, q.2.2)) p text = 0) := Lib.hid (by rw [clash, hlm, hls]; rfl)
    clear hls HL hlm hF ha hc hl hk hvb hnd hml
    go_enter Tryz.func91, Tryz.ntmps91
    go_wp2
    refine reg_begin (fun w' => Kp nob w w' ∧ Blk w' w.heap.size 157 (bvs p.1)) (by kernel_rfl) HB0.out (fun _ => ?_)
    generalize (w.alloc (.cells (bvs p.1).toArray 157)).drew = w1 at *
    refine reg_take (v := .pointer (some ⟨v, 0, none⟩)) 0 (some 9) rfl rfl (by kernel_rfl) (by kernel_rfl) (by kernel_rfl) (by rfl) HB0.out (fun w hw => by go_simp) ?_
    simp only [Act.put, List.setIfInBounds_toArray, List.set_cons_zero, List.set_cons_succ]
    refine reg_take (v := .pointer (some ⟨v, 0, none⟩)) 1 (some 10) rfl rfl (by kernel_rfl) (by kernel_rfl) (by kernel_rfl) (by rfl) HB0.out (fun w hw => by go_simp) ?_
    simp only [Act.put, List.setIfInBounds_toArray, List.set_cons_zero, List.set_cons_succ]
    refine reg_take (v := .pointer (some ⟨v, 34, none⟩)) 2 (some 11) rfl rfl (by kernel_rfl) (by kernel_rfl) (by kernel_rfl) (by rfl) HB0.out (fun w hw => by go_simp) ?_
    simp only [Act.put, List.setIfInBounds_toArray, List.set_cons_zero, List.set_cons_succ]
    refine reg_take (v := .map (some m)) 3 (some 12) rfl rfl (by kernel_rfl) (by kernel_rfl) (by kernel_rfl) (by rfl) HB0.out (fun w hw => by have hc := (HV.out.keep0 hw.1).map_; go_simp) ?_
    simp only [Act.put, List.setIfInBounds_toArray, List.set_cons_zero, List.set_cons_succ]
    refine reg_load 4 (some 13) 157 (.tmp 4) rfl rfl rfl (by kernel_rfl) (by kernel_rfl) (by kernel_rfl) (by rfl) HB0.out w.heap.size 0 rfl (bvs p.1) _ (fun w hw => hw.2.range) place_under rfl HPS.out ?_
    simp only [Act.put, List.setIfInBounds_toArray, List.set_cons_zero, List.set_cons_succ]
    refine reg_take (v := .tuple #[.slice none 0 0, .bool false]) 5 (some 14) rfl rfl (by kernel_rfl) (by kernel_rfl) (by kernel_rfl) (by rfl) HB0.out (fun w hw => by exact exec_look (.tmp 12) (.tmp 13) 81 true rfl (.map (some m)) (pv p) _ rfl rfl (HL2.out w (HV.out.keep0 hw.1).s)) ?_
    simp only [Act.put, List.setIfInBounds_toArray, List.set_cons_zero, List.set_cons_succ]
    refine reg_take (v := .tuple #[.slice none 0 0, .bool false]) 6 (some 8) rfl rfl (by kernel_rfl) (by kernel_rfl) (by kernel_rfl) (by rfl) HB0.out (fun w hw => by go_simp) ?_
    simp only [Act.put, List.setIfInBounds_toArray, List.set_cons_zero, List.set_cons_succ]
    refine reg_take (v := .slice none 0 0) 7 (some 15) rfl rfl (by kernel_rfl) (by kernel_rfl) (by kernel_rfl) (by rfl) HB0.out (fun w hw => by go_simp) ?_
    simp only [Act.put, List.setIfInBounds_toArray, List.set_cons_zero, List.set_cons_succ]
    refine reg_take (v := .bool false) 8 (some 16) rfl rfl (by kernel_rfl) (by kernel_rfl) (by kernel_rfl) (by rfl) HB0.out (fun w hw => by go_simp) ?_
    simp only [Act.put, List.setIfInBounds_toArray, List.set_cons_zero, List.set_cons_succ]
    refine reg_take (v := .slice none 0 0) 9 (some 6) rfl rfl (by kernel_rfl) (by kernel_rfl) (by kernel_rfl) (by rfl) HB0.out (fun w hw => by go_simp) ?_
    simp only [Act.put, List.setIfInBounds_toArray, List.set_cons_zero, List.set_cons_succ]
    refine reg_take (v := .bool false) 10 (some 7) rfl rfl (by kernel_rfl) (by kernel_rfl) (by kernel_rfl) (by rfl) HB0.out (fun w hw => by go_simp) ?_
    simp only [Act.put, List.setIfInBounds_toArray, List.set_cons_zero, List.set_cons_succ]
    refine reg_end (by kernel_rfl) ?_
    go_wp2
    have k5 : Kp nob w w1.drew := HB0.out.1.drew
    have HS5 : Hid (Kp (vF v m) w w1.drew ∧ Blk w1.drew w.heap.size 157 (bvs p.1) ∧ Blk w1.drew v 83 (vcells mk ms lim m cl)) := Lib.hid ⟨k5.nob _, HB0.out.2.keep (Kp.refl nob _).drew (fun e => e), (HV.out.keep0 k5).b⟩
    have HR5 : Hid (Row w1.drew T (bvs text)) := Lib.hid (HA.out.row.keep0 k5)
    have HM5 : Hid (MapB w1.drew m (ents (·.1) sx)) := Lib.hid ((HV.out.keep0 k5).s)
    clear k5
    refine reg_begin (fun w' => Kp (vF v m) w w' ∧ Blk w' w.heap.size 157 (bvs p.1) ∧ Blk w' v 83 (vcells mk ms lim m cl)) (by kernel_rfl) HS5.out (fun _ => ?_)
    generalize (w1).drew = w5 at *
    refine reg_take (v := .pointer (some ⟨v, 0, none⟩)) 0 (some 31) rfl rfl (by kernel_rfl) (by kernel_rfl) (by kernel_rfl) (by rfl) HS5.out (fun w hw => by go_simp) ?_
    simp only [Act.put, List.setIfInBounds_toArray, List.set_cons_zero, List.set_cons_succ]
    refine reg_take (v := .pointer (some ⟨v, 0, none⟩)) 1 (some 32) rfl rfl (by kernel_rfl) (by kernel_rfl) (by kernel_rfl) (by rfl) HS5.out (fun w hw => by go_simp) ?_
    simp only [Act.put, List.setIfInBounds_toArray, List.set_cons_zero, List.set_cons_succ]
    refine reg_take (v := .pointer (some ⟨v, 34, none⟩)) 2 (some 33) rfl rfl (by kernel_rfl) (by kernel_rfl) (by kernel_rfl) (by rfl) HS5.out (fun w hw => by go_simp) ?_
    simp only [Act.put, List.setIfInBounds_toArray, List.set_cons_zero, List.set_cons_succ]
    refine reg_take (v := .map (some m)) 3 (some 34) rfl rfl (by kernel_rfl) (by kernel_rfl) (by kernel_rfl) (by rfl) HS5.out (fun w hw => by have hc := HC34.out w cl hw.2.2; go_simp) ?_
    simp only [Act.put, List.setIfInBounds_toArray, List.set_cons_zero, List.set_cons_succ]
    refine reg_load 4 (some 35) 157 (.tmp 4) rfl rfl rfl (by kernel_rfl) (by kernel_rfl) (by kernel_rfl) (by rfl) HS5.out w.heap.size 0 rfl (bvs p.1) _ (fun w hw => hw.2.1.range) place_under rfl HPS.out ?_
    simp only [Act.put, List.setIfInBounds_toArray, List.set_cons_zero, List.set_cons_succ]
    refine reg_take (v := .slice T n c) 5 (some 36) rfl rfl (by kernel_rfl) (by kernel_rfl) (by kernel_rfl) (by rfl) HS5.out (fun w hw => by go_simp) ?_
    simp only [Act.put, List.setIfInBounds_toArray, List.set_cons_zero, List.set_cons_succ]
    refine reg_call 6 (some 37) rfl rfl (by kernel_rfl) (by rfl) _ _ (exec_func 63 _ _ [.slice T n c] rfl (by kernel_rfl) rfl) ?_
    refine (clone_any T n c text w5 HCL.out.1 HCL.out.2 HA.out.nil HR5.out).mono ?_
    rintro e w6 ⟨A6, c6, rfl, o6, k6, f6, n6⟩
    have HS6 : Hid (Kp (vF v m) w w6 ∧ Blk w6 w.heap.size 157 (bvs p.1) ∧ Blk w6 v 83 (vcells mk ms lim m cl)) := Lib.hid ⟨HS5.out.1.trans k6 (fun _ e => e.elim), HS5.out.2.1.keep k6 (fun e => e), HS5.out.2.2.keep k6 (fun e => e)⟩
    have HM6 := Lib.hid (HM5.out.keep k6 (fun e => e))
    have HO6 := Lib.hid o6; have HN6 := Lib.hid n6
    have HF6 : Hid (∀ k, ab A6 = some k → w.heap.size ≤ k ∧ k < w6.heap.size) := Lib.hid (fun k e => ⟨Nat.le_trans HS5.out.1.size (f6 k e), o6.lt k e⟩)
    clear o6 k6 f6 n6
    refine ⟨_, rfl, HS6.out, fun _ => ?_⟩
    simp only [Act.put, List.setIfInBounds_toArray, List.set_cons_zero, List.set_cons_succ]
    obtain ⟨w7, h7, m7, k7, z7⟩ := HST.out w6 (.slice A6 text.length c6, text) HM6.out
    have hvm : v ≠ m := HV.out.ne
    have K7 : Kp (vF v m) w w7 := HS6.out.1.trans k7 (fun i e => .inl (.inr e))
    have hb7 : Blk w7 v 83 (vcells mk ms lim m cl) := HS6.out.2.2.keep k7 (fun e => hvm e)
    refine reg_update (w' := w7) 7 none (.tmp 34) (.tmp 35) (.tmp 37) 81 rfl rfl rfl (by kernel_rfl) (by rfl) (.map (some m)) (pv p) (.slice A6 text.length c6) rfl rfl rfl h7 ⟨K7, HS6.out.2.1.keep k7 (fun e => by have e : w.heap.size = m := e; have := HLT.out.2; omega), hb7⟩ (fun _ => ?_)
    simp only [Act.put, List.setIfInBounds_toArray, List.set_cons_zero, List.set_cons_succ]
    refine reg_end (by kernel_rfl) ?_
    have hkp : Kpt F w7 v m (.slice A6 text.length c6) text := ⟨A6, c6, rfl, HO6.out.cap.1, HO6.out.cap.2, HN6.out, HO6.out.row.keep k7 (fun k e e2 => by have e2 : k = m := e2; have := (HF6.out k e).1; have := HLT.out.2; omega), fun k e => by
      have h1 := HF6.out k e
      have h2 := HLT.out
      exact ⟨fun e2 => by have := HFL.out k e2; omega, by omega, by omega, by omega⟩⟩
    have hvs := vs_put HV.out HND.out HK.out hb7 m7 K7 hkp
    clear hvm h7 m7 z7
    go_wp2
    refine bodyPost_end (results_none rfl _ _ _) rfl ⟨rfl, ?_, K7⟩
    rw [HCS.out, Nat.add_zero]
    exact hvs
  | some xu =>
    obtain ⟨x, u⟩ := xu
    have HL2 : Hid (∀ w', MapB w' m (ents (·.1) sx) → (Instr.lookup 81 (.map (some m)) (pv p) true).run Tryz.prog w' = .ok (.tuple #[x, .bool true]) w') := Lib.hid (fun w' h => by have := HL w' h; rw [hls] at this; exact this)
    obtain ⟨X, cX, hx0, hx1, hx2, hx3, hx4, hx5⟩ := hk _ (last_mem _ _ _ hls)
    simp only at hx0 hx1 hx2 hx3 hx4 hx5
    subst hx0
    have HX4 := Lib.hid hx4
    obtain ⟨nu, hnu⟩ : ∃ k, k = u.length := ⟨_, rfl⟩
    rw [← hnu] at HL2
    have HNU := Lib.hid hnu
    by_cases hut : u = text
    · have HE := Lib.hid (fun (w' : World) (k : Kp nob w w') => (show Calls Tryz.prog 105 #[.slice X nu cX, .slice T n c] w' fun e w2 => e = .returned (.bool true) ∧ w' = w2 by
        have := Ideal.equal_any X T nu cX n c u text w' HNU.out.symm HCL.out.1 (HX4.out.keep0 k) (HA.out.row.keep0 k)
        rw [decide_eq_true hut] at this; exact this))
      have HCS : Hid (clash dift (sx.map fun q => (q.1, q.2.2)) p text = 0) := Lib.hid (by rw [clash, hlm, hls]; simp [dift, hut])
      have HUS : Hid (upd (sx.map fun q => (q.1, q.2.2)) p text = sx.map fun q => (q.1, q.2.2)) := Lib.hid (upd_same _ _ _ (by rw [hlm, hls, ← hut]; rfl))
      clear hls HL hlm hF ha hc hl hk hvb hnd hml hx1 hx2 hx3 hx4 hx5 hnu
      go_enter Tryz.func91, Tryz.ntmps91
      go_wp2
      refine reg_begin (fun w' => Kp nob w w' ∧ Blk w' w.heap.size 157 (bvs p.1)) (by kernel_rfl) HB0.out (fun _ => ?_)
      generalize (w.alloc (.cells (bvs p.1).toArray 157)).drew = w1 at *
      refine reg_take (v := .pointer (some ⟨v, 0, none⟩)) 0 (some 9) rfl rfl (by kernel_rfl) (by kernel_rfl) (by kernel_rfl) (by rfl) HB0.out (fun w hw => by go_simp) ?_
      simp only [Act.put, List.setIfInBounds_toArray, List.set_cons_zero, List.set_cons_succ]
      refine reg_take (v := .pointer (some ⟨v, 0, none⟩)) 1 (some 10) rfl rfl (by kernel_rfl) (by kernel_rfl) (by kernel_rfl) (by rfl) HB0.out (fun w hw => by go_simp) ?_
      simp only [Act.put, List.setIfInBounds_toArray, List.set_cons_zero, List.set_cons_succ]
      refine reg_take (v := .pointer (some ⟨v, 34, none⟩)) 2 (some 11) rfl rfl (by kernel_rfl) (by kernel_rfl) (by kernel_rfl) (by rfl) HB0.out (fun w hw => by go_simp) ?_
      simp only [Act.put, List.setIfInBounds_toArray, List.set_cons_zero, List.set_cons_succ]
      refine reg_take (v := .map (some m)) 3 (some 12) rfl rfl (by kernel_rfl) (by kernel_rfl) (by kernel_rfl) (by rfl) HB0.out (fun w hw => by have hc := (HV.out.keep0 hw.1).map_; go_simp) ?_
      simp only [Act.put, List.setIfInBounds_toArray, List.set_cons_zero, List.set_cons_succ]
      refine reg_load 4 (some 13) 157 (.tmp 4) rfl rfl rfl (by kernel_rfl) (by kernel_rfl) (by kernel_rfl) (by rfl) HB0.out w.heap.size 0 rfl (bvs p.1) _ (fun w hw => hw.2.range) place_under rfl HPS.out ?_
      simp only [Act.put, List.setIfInBounds_toArray, List.set_cons_zero, List.set_cons_succ]
      refine reg_take (v := .tuple #[.slice X nu cX, .bool true]) 5 (some 14) rfl rfl (by kernel_rfl) (by kernel_rfl) (by kernel_rfl) (by rfl) HB0.out (fun w hw => by exact exec_look (.tmp 12) (.tmp 13) 81 true rfl (.map (some m)) (pv p) _ rfl rfl (HL2.out w (HV.out.keep0 hw.1).s)) ?_
      simp only [Act.put, List.setIfInBounds_toArray, List.set_cons_zero, List.set_cons_succ]
      refine reg_take (v := .tuple #[.slice X nu cX, .bool true]) 6 (some 8) rfl rfl (by kernel_rfl) (by kernel_rfl) (by kernel_rfl) (by rfl) HB0.out (fun w hw => by go_simp) ?_
      simp only [Act.put, List.setIfInBounds_toArray, List.set_cons_zero, List.set_cons_succ]
      refine reg_take (v := .slice X nu cX) 7 (some 15) rfl rfl (by kernel_rfl) (by kernel_rfl) (by kernel_rfl) (by rfl) HB0.out (fun w hw => by go_simp) ?_
      simp only [Act.put, List.setIfInBounds_toArray, List.set_cons_zero, List.set_cons_succ]
      refine reg_take (v := .bool true) 8 (some 16) rfl rfl (by kernel_rfl) (by kernel_rfl) (by kernel_rfl) (by rfl) HB0.out (fun w hw => by go_simp) ?_
      simp only [Act.put, List.setIfInBounds_toArray, List.set_cons_zero, List.set_cons_succ]
      refine reg_take (v := .slice X nu cX) 9 (some 6) rfl rfl (by kernel_rfl) (by kernel_rfl) (by kernel_rfl) (by rfl) HB0.out (fun w hw => by go_simp) ?_
      simp only [Act.put, List.setIfInBounds_toArray, List.set_cons_zero, List.set_cons_succ]
      refine reg_take (v := .bool true) 10 (some 7) rfl rfl (by kernel_rfl) (by kernel_rfl) (by kernel_rfl) (by rfl) HB0.out (fun w hw => by go_simp) ?_
      simp only [Act.put, List.setIfInBounds_toArray, List.set_cons_zero, List.set_cons_succ]
      refine reg_end (by kernel_rfl) ?_
      go_wp2_with fail
      refine (HE.out _ HB0.out.1).mono ?_
      rintro e w2 ⟨rfl, rfl⟩
      go_wp2
      refine bodyPost_ret (results_none rfl _ _ _) rfl ⟨rfl, ?_, HB0.out.1.nob _⟩
      rw [HCS.out, HUS.out, Nat.add_zero]
      exact ⟨sx, rfl, HV.out.keep0 HB0.out.1, HND.out, fun q hq => (HK.out q hq).keep HB0.out.1 (fun i e => e.elim)⟩
    · have HE := Lib.hid (fun (w' : World) (k : Kp nob w w') => (show Calls Tryz.prog 105 #[.slice X nu cX, .slice T n c] w' fun e w2 => e = .returned (.bool false) ∧ w' = w2 by
        have := Ideal.equal_any X T nu cX n c u text w' HNU.out.symm HCL.out.1 (HX4.out.keep0 k) (HA.out.row.keep0 k)
        rw [decide_eq_false hut] at this; exact this))
      have HCS : Hid (clash dift (sx.map fun q => (q.1, q.2.2)) p text = 1) := Lib.hid (by rw [clash, hlm, hls]; simp [dift, hut])
      obtain ⟨cl1, hcl1⟩ : ∃ k, k = cl + 1 := ⟨_, rfl⟩
      have e1 : IntKind.i64.wrap ((cl : Int) + 1) = (cl1 : Int) := by rw [IntWalk.i64_in _ (by omega)]; omega
      have HC1 := Lib.hid hcl1; have HW1 := Lib.hid e1
      clear hls HL hlm hF ha hc hl hk hvb hnd hml hx1 hx2 hx3 hx4 hx5 hnu hcl1 e1
      go_enter Tryz.func91, Tryz.ntmps91
      go_wp2
      refine reg_begin (fun w' => Kp nob w w' ∧ Blk w' w.heap.size 157 (bvs p.1)) (by kernel_rfl) HB0.out (fun _ => ?_)
      generalize (w.alloc (.cells (bvs p.1).toArray 157)).drew = w1 at *
      refine reg_take (v := .pointer (some ⟨v, 0, none⟩)) 0 (some 9) rfl rfl (by kernel_rfl) (by kernel_rfl) (by kernel_rfl) (by rfl) HB0.out (fun w hw => by go_simp) ?_
      simp only [Act.put, List.setIfInBounds_toArray, List.set_cons_zero, List.set_cons_succ]
      refine reg_take (v := .pointer (some ⟨v, 0, none⟩)) 1 (some 10) rfl rfl (by kernel_rfl) (by kernel_rfl) (by kernel_rfl) (by rfl) HB0.out (fun w hw => by go_simp) ?_
      simp only [Act.put, List.setIfInBounds_toArray, List.set_cons_zero, List.set_cons_succ]
      refine reg_take (v := .pointer (some ⟨v, 34, none⟩)) 2 (some 11) rfl rfl (by kernel_rfl) (by kernel_rfl) (by kernel_rfl) (by rfl) HB0.out (fun w hw => by go_simp) ?_
      simp only [Act.put, List.setIfInBounds_toArray, List.set_cons_zero, List.set_cons_succ]
      refine reg_take (v := .map (some m)) 3 (some 12) rfl rfl (by kernel_rfl) (by kernel_rfl) (by kernel_rfl) (by rfl) HB0.out (fun w hw => by have hc := (HV.out.keep0 hw.1).map_; go_simp) ?_
      simp only [Act.put, List.setIfInBounds_toArray, List.set_cons_zero, List.set_cons_succ]
      refine reg_load 4 (some 13) 157 (.tmp 4) rfl rfl rfl (by kernel_rfl) (by kernel_rfl) (by kernel_rfl) (by rfl) HB0.out w.heap.size 0 rfl (bvs p.1) _ (fun w hw => hw.2.range) place_under rfl HPS.out ?_
      simp only [Act.put, List.setIfInBounds_toArray, List.set_cons_zero, List.set_cons_succ]
      refine reg_take (v := .tuple #[.slice X nu cX, .bool true]) 5 (some 14) rfl rfl (by kernel_rfl) (by kernel_rfl) (by kernel_rfl) (by rfl) HB0.out (fun w hw => by exact exec_look (.tmp 12) (.tmp 13) 81 true rfl (.map (some m)) (pv p) _ rfl rfl (HL2.out w (HV.out.keep0 hw.1).s)) ?_
      simp only [Act.put, List.setIfInBounds_toArray, List.set_cons_zero, List.set_cons_succ]
      refine reg_take (v := .tuple #[.slice X nu cX, .bool true]) 6 (some 8) rfl rfl (by kernel_rfl) (by kernel_rfl) (by kernel_rfl) (by rfl) HB0.out (fun w hw => by go_simp) ?_
      simp only [Act.put, List.setIfInBounds_toArray, List.set_cons_zero, List.set_cons_succ]
      refine reg_take (v := .slice X nu cX) 7 (some 15) rfl rfl (by kernel_rfl) (by kernel_rfl) (by kernel_rfl) (by rfl) HB0.out (fun w hw => by go_simp) ?_
      simp only [Act.put, List.setIfInBounds_toArray, List.set_cons_zero, List.set_cons_succ]
      refine reg_take (v := .bool true) 8 (some 16) rfl rfl (by kernel_rfl) (by kernel_rfl) (by kernel_rfl) (by rfl) HB0.out (fun w hw => by go_simp) ?_
      simp only [Act.put, List.setIfInBounds_toArray, List.set_cons_zero, List.set_cons_succ]
      refine reg_take (v := .slice X nu cX) 9 (some 6) rfl rfl (by kernel_rfl) (by kernel_rfl) (by kernel_rfl) (by rfl) HB0.out (fun w hw => by go_simp) ?_
      simp only [Act.put, List.setIfInBounds_toArray, List.set_cons_zero, List.set_cons_succ]
      refine reg_take (v := .bool true) 10 (some 7) rfl rfl (by kernel_rfl) (by kernel_rfl) (by kernel_rfl) (by rfl) HB0.out (fun w hw => by go_simp) ?_
      simp only [Act.put, List.setIfInBounds_toArray, List.set_cons_zero, List.set_cons_succ]
      refine reg_end (by kernel_rfl) ?_
      have e1 := HW1.out
      have c35 := (HV.out.keep0 HB0.out.1).cl_
      have f35 : w1.frozen? ⟨v, 35, none⟩ = false := (HV.out.keep0 HB0.out.1).b.frozen _
      go_wp2_with fail
      refine (HE.out _ HB0.out.1).mono ?_
      rintro e w2 ⟨rfl, rfl⟩
      go_wp2
      have k4 : Kp (vF v m) w (w1.setCell ⟨v, 35, none⟩ (.int .i64 (cl1 : Int))).drew := ((HB0.out.1.nob (vF v m)).setCell (p := ⟨v, 35, none⟩) (.inl (.inl rfl)) _).drew
      have b4 : Blk (w1.setCell ⟨v, 35, none⟩ (.int .i64 (cl1 : Int))) v 83 (vcells mk ms lim m cl1) := by
        have := (HV.out.keep0 HB0.out.1).b.set_ 35 (.int .i64 (cl1 : Int))
        rwa [vcells_cl _ _ _ _ _ _ HV.out.l] at this
      have kv : Kp (fun i => i = v) w1 (w1.setCell ⟨v, 35, none⟩ (.int .i64 (cl1 : Int))).drew := ((Kp.refl (fun i => i = v) w1).setCell (p := ⟨v, 35, none⟩) (.inl rfl) _).drew
      have HS5 : Hid (Kp (vF v m) w (w1.setCell ⟨v, 35, none⟩ (.int .i64 (cl1 : Int))).drew ∧ Blk (w1.setCell ⟨v, 35, none⟩ (.int .i64 (cl1 : Int))).drew w.heap.size 157 (bvs p.1) ∧ Blk (w1.setCell ⟨v, 35, none⟩ (.int .i64 (cl1 : Int))).drew v 83 (vcells mk ms lim m cl1)) := Lib.hid ⟨k4, HB0.out.2.keep kv (fun e => by have e : w.heap.size = v := e; have := HLT.out.1; omega), b4.keep (Kp.refl nob _).drew (fun e => e)⟩
      have HR5 : Hid (Row (w1.setCell ⟨v, 35, none⟩ (.int .i64 (cl1 : Int))).drew T (bvs text)) := Lib.hid (by
        rcases HA.out.far with h | h
        · rw [h]; exact Row.nil _ _
        · exact HA.out.row.keep k4 h)
      have HM5 : Hid (MapB (w1.setCell ⟨v, 35, none⟩ (.int .i64 (cl1 : Int))).drew m (ents (·.1) sx)) := Lib.hid ((HV.out.keep0 HB0.out.1).s.keep kv (fun e => HV.out.ne e.symm))
      clear k4 b4 kv c35 f35 e1
      refine reg_begin (fun w' => Kp (vF v m) w w' ∧ Blk w' w.heap.size 157 (bvs p.1) ∧ Blk w' v 83 (vcells mk ms lim m cl1)) (by kernel_rfl) HS5.out (fun _ => ?_)
      generalize (w1.setCell ⟨v, 35, none⟩ (.int .i64 (cl1 : Int))).drew = w5 at *
      refine reg_take (v := .pointer (some ⟨v, 0, none⟩)) 0 (some 31) rfl rfl (by kernel_rfl) (by kernel_rfl) (by kernel_rfl) (by rfl) HS5.out (fun w hw => by go_simp) ?_
      simp only [Act.put, List.setIfInBounds_toArray, List.set_cons_zero, List.set_cons_succ]
      refine reg_take (v := .pointer (some ⟨v, 0, none⟩)) 1 (some 32) rfl rfl (by kernel_rfl) (by kernel_rfl) (by kernel_rfl) (by rfl) HS5.out (fun w hw => by go_simp) ?_
      simp only [Act.put, List.setIfInBounds_toArray, List.set_cons_zero, List.set_cons_succ]
      refine reg_take (v := .pointer (some ⟨v, 34, none⟩)) 2 (some 33) rfl rfl (by kernel_rfl) (by kernel_rfl) (by kernel_rfl) (by rfl) HS5.out (fun w hw => by go_simp) ?_
      simp only [Act.put, List.setIfInBounds_toArray, List.set_cons_zero, List.set_cons_succ]
      refine reg_take (v := .map (some m)) 3 (some 34) rfl rfl (by kernel_rfl) (by kernel_rfl) (by kernel_rfl) (by rfl) HS5.out (fun w hw => by have hc := HC34.out w cl1 hw.2.2; go_simp) ?_
      simp only [Act.put, List.setIfInBounds_toArray, List.set_cons_zero, List.set_cons_succ]
      refine reg_load 4 (some 35) 157 (.tmp 4) rfl rfl rfl (by kernel_rfl) (by kernel_rfl) (by kernel_rfl) (by rfl) HS5.out w.heap.size 0 rfl (bvs p.1) _ (fun w hw => hw.2.1.range) place_under rfl HPS.out ?_
      simp only [Act.put, List.setIfInBounds_toArray, List.set_cons_zero, List.set_cons_succ]
      refine reg_take (v := .slice T n c) 5 (some 36) rfl rfl (by kernel_rfl) (by kernel_rfl) (by kernel_rfl) (by rfl) HS5.out (fun w hw => by go_simp) ?_
      simp only [Act.put, List.setIfInBounds_toArray, List.set_cons_zero, List.set_cons_succ]
      refine reg_call 6 (some 37) rfl rfl (by kernel_rfl) (by rfl) _ _ (exec_func 63 _ _ [.slice T n c] rfl (by kernel_rfl) rfl) ?_
      refine (clone_any T n c text w5 HCL.out.1 HCL.out.2 HA.out.nil HR5.out).mono ?_
      rintro e w6 ⟨A6, c6, rfl, o6, k6, f6, n6⟩
      have HS6 : Hid (Kp (vF v m) w w6 ∧ Blk w6 w.heap.size 157 (bvs p.1) ∧ Blk w6 v 83 (vcells mk ms lim m cl1)) := Lib.hid ⟨HS5.out.1.trans k6 (fun _ e => e.elim), HS5.out.2.1.keep k6 (fun e => e), HS5.out.2.2.keep k6 (fun e => e)⟩
      have HM6 := Lib.hid (HM5.out.keep k6 (fun e => e))
      have HO6 := Lib.hid o6; have HN6 := Lib.hid n6
      have HF6 : Hid (∀ k, ab A6 = some k → w.heap.size ≤ k ∧ k < w6.heap.size) := Lib.hid (fun k e => ⟨Nat.le_trans HS5.out.1.size (f6 k e), o6.lt k e⟩)
      clear o6 k6 f6 n6
      refine ⟨_, rfl, HS6.out, fun _ => ?_⟩
      simp only [Act.put, List.setIfInBounds_toArray, List.set_cons_zero, List.set_cons_succ]
      obtain ⟨w7, h7, m7, k7, z7⟩ := HST.out w6 (.slice A6 text.length c6, text) HM6.out
      have hvm : v ≠ m := HV.out.ne
      have K7 : Kp (vF v m) w w7 := HS6.out.1.trans k7 (fun i e => .inl (.inr e))
      have hb7 : Blk w7 v 83 (vcells mk ms lim m cl1) := HS6.out.2.2.keep k7 (fun e => hvm e)
      refine reg_update (w' := w7) 7 none (.tmp 34) (.tmp 35) (.tmp 37) 81 rfl rfl rfl (by kernel_rfl) (by rfl) (.map (some m)) (pv p) (.slice A6 text.length c6) rfl rfl rfl h7 ⟨K7, HS6.out.2.1.keep k7 (fun e => by have e : w.heap.size = m := e; have := HLT.out.2; omega), hb7⟩ (fun _ => ?_)
      simp only [Act.put, List.setIfInBounds_toArray, List.set_cons_zero, List.set_cons_succ]
      refine reg_end (by kernel_rfl) ?_
      have hkp : Kpt F w7 v m (.slice A6 text.length c6) text := ⟨A6, c6, rfl, HO6.out.cap.1, HO6.out.cap.2, HN6.out, HO6.out.row.keep k7 (fun k e e2 => by have e2 : k = m := e2; have := (HF6.out k e).1; have := HLT.out.2; omega), fun k e => by
        have h1 := HF6.out k e
        have h2 := HLT.out
        exact ⟨fun e2 => by have := HFL.out k e2; omega, by omega, by omega, by omega⟩⟩
      have hvs := vs_put HV.out HND.out HK.out hb7 m7 K7 hkp
      clear hvm h7 m7 z7
      go_wp2
      refine bodyPost_end (results_none rfl _ _ _) rfl ⟨rfl, ?_, K7⟩
      rw [HCS.out, ← HC1.out]
      exact hvs
end Go.Proofs.YtiimfhacnfdmhaaGreat.Vault
namespace Go.Proofs.YtiimfhacnfdmhaaGreat.Vault
open Go Go.RowKit Kit
open Ideal (Iw Iq Ans Arg Args Thing mk out sealT opn derT hashT z32 Ts)
open Sha (Pc PcsOk catP)
open Gcm (gs)
open Aes (allW)
open Field (Sq)
def rl [Inhabited Sha.ShaTab] [Inhabited Field.SqTab] (t : Thing) : List UInt8 :=
  if t.kind = 72 then Sha.of t.a else if t.kind = 77 then Hmac.mac t.a t.b else if t.kind = 68 then Kdf.expand t.a t.b 32 else gs (allW t.a) 13 t.b t.d t.c
structure Vc where
  v : Nat
  m : Nat
  p : Nat
  ms : List UInt8
  lim : Nat
  b : Nat
structure Vt where
  F : Nat → Prop
  P : Nat → Prop
  o : Ts
  sl : List (Pl × List UInt8)
  cl : Nat
def mkr : Ts → Nat → Value
  | .real _, _ => rmk
  | .dream _, p => imk p
def Wd [Inhabited Sha.ShaTab] [Inhabited Field.SqTab] (w : World) (b p : Nat) (F : Nat → Prop) : Ts → Prop
  | .real f => f = rl ∧ Sha.Tabs w ∧ Sq w ∧ (∀ i, ¬ F i) ∧ (∀ k, b ≤ k → Sha.Far k) ∧ 2 < b
  | .dream ts => Iw w p F ts
def oth (w : World) (F P : Nat → Prop) : Nat → Prop := fun i => F i ∨ i < w.heap.size ∧ ¬ P i
structure Vx [Inhabited Sha.ShaTab] [Inhabited Field.SqTab] (w : World) (c : Vc) (x : Vt) : Prop where
  vs : Vs (oth w x.F x.P) w c.v c.m (mkr x.o c.p) c.ms c.lim x.sl x.cl
  wd : Wd w c.b c.p x.F x.o
  sub : ∀ i, x.F i → x.P i
  own : x.P c.v ∧ x.P c.m
  ne : ¬ x.F c.v ∧ ¬ x.F c.m
  lt : ∀ i, x.P i → i < w.heap.size
  ge : ∀ i, x.P i → c.b ≤ i
  sz : c.b ≤ w.heap.size
structure Vq [Inhabited Sha.ShaTab] [Inhabited Field.SqTab] (w : World) (c : Vc) (x : Vt) (w2 : World) (x2 : Vt) : Prop where
  now : Vx w2 c x2
  P : ∀ i, x2.P i → x.P i ∨ w.heap.size ≤ i
  kp : Kp x.P w w2
theorem Wd.keep [Inhabited Sha.ShaTab] [Inhabited Field.SqTab] {w w2 : World} {b p : Nat} {F H : Nat → Prop} {o : Ts} (h : Wd w b p F o) (k : Kp H w w2) (hF : ∀ i, F i → ¬ H i) (hH : ∀ i, H i → b ≤ i) : Wd w2 b p F o := by
  cases o with
  | real f => exact ⟨h.1, h.2.1.keep k (fun i e => h.2.2.2.2.1 i (hH i e)), range_keep h.2.2.1 k (fun e => by have := hH 2 e; have := h.2.2.2.2.2; omega), h.2.2.2⟩
  | dream ts => exact Iw.keep h k hF
theorem Kp.low {H : Nat → Prop} {w w2 : World} (k : Kp H w w2) : Kp (fun i => i < w.heap.size ∧ H i) w w2 := k.mono (fun i h e => ⟨h, e⟩)
theorem Vx.keep [Inhabited Sha.ShaTab] [Inhabited Field.SqTab] {w w2 : World} {c : Vc} {x : Vt} {H : Nat → Prop} (h : Vx w c x) (k : Kp H w w2) (hH : ∀ i, i < w.heap.size → H i → c.b ≤ i ∧ ¬ x.P i) : Vx w2 c x := by
  have hv : ¬ H c.v := fun e => (hH _ (h.lt _ h.own.1) e).2 h.own.1
  have hm : ¬ H c.m := fun e => (hH _ (h.lt _ h.own.2) e).2 h.own.2
  have hs := k.size
  refine ⟨h.vs.turnG k (fun i l e => .inr ⟨l, (hH i l e).2⟩) hv hm (fun i e => ?_), h.wd.keep (Kp.low k) (fun i e e2 => (hH i e2.1 e2.2).2 (h.sub i e)) (fun i e => (hH i e.1 e.2).1), h.sub, h.own, h.ne, fun i e => Nat.lt_of_lt_of_le (h.lt i e) hs, h.ge, Nat.le_trans h.sz hs⟩
  rcases e with e | ⟨e1, e2⟩
  · exact .inl (.inl e)
  · by_cases hl : i < w.heap.size
    · exact .inl (.inr ⟨hl, e2⟩)
    · exact .inr (by omega)
theorem Vx.keep0 [Inhabited Sha.ShaTab] [Inhabited Field.SqTab] {w w2 : World} {c : Vc} {x : Vt} (h : Vx w c x) (k : Kp nob w w2) : Vx w2 c x := h.keep k (fun _ _ e => e.elim)
theorem Vx.alloc [Inhabited Sha.ShaTab] [Inhabited Field.SqTab] {w : World} {c : Vc} {x : Vt} (h : Vx w c x) (o : Obj) : Vx (w.alloc o) c x := h.keep0 ((Kp.refl nob w).alloc o)
theorem Vx.world [Inhabited Sha.ShaTab] [Inhabited Field.SqTab] {w w2 : World} {c : Vc} {F P F2 : Nat → Prop} {sl : List (Pl × List UInt8)} {cl : Nat} {ts ts2 : List Thing} (h : Vx w c ⟨F, P, .dream ts, sl, cl⟩) (q : Iq w F w2 c.p F2 ts2) : Vq w c ⟨F, P, .dream ts, sl, cl⟩ w2 ⟨F2, fun i => P i ∨ F2 i, .dream ts2, sl, cl⟩ := by
  have hs := q.k.size
  have hlt2 := Iw.lt q.i
  have hv : c.v < w.heap.size := h.lt _ h.own.1
  have hm : c.m < w.heap.size := h.lt _ h.own.2
  have hz : c.b ≤ w.heap.size := h.sz
  refine ⟨⟨h.vs.turnG q.k (fun i l e => .inl e) h.ne.1 h.ne.2 (fun i e => ?_), q.i, fun i e => .inr e, ⟨.inl h.own.1, .inl h.own.2⟩, ⟨fun e => (q.f _ e).elim h.ne.1 (fun e => by omega), fun e => (q.f _ e).elim h.ne.2 (fun e => by omega)⟩, fun i e => ?_, fun i e => ?_, by omega⟩, fun i e => ?_, q.k.mono (fun i _ e => h.sub i e)⟩
  · rcases e with e | ⟨e1, e2⟩
    · exact (q.f i e).elim (fun e => .inl (.inl e)) .inr
    · by_cases hl : i < w.heap.size
      · exact .inl (.inr ⟨hl, fun e => e2 (.inl e)⟩)
      · exact .inr (by omega)
  · rcases e with e | e
    · exact Nat.lt_of_lt_of_le (h.lt i e) hs
    · exact hlt2 i e
  · rcases e with e | e
    · exact h.ge i e
    · exact (q.f i e).elim (fun e => h.ge i (h.sub i e)) (fun e => by omega)
  · rcases e with e | e
    · exact .inl e
    · exact (q.f i e).elim (fun e => .inl (h.sub i e)) .inr
theorem args_nob {w : World} {F : Nat → Prop} {B : Option Addr} {m : Nat} {ps : List Pc} (h : Args w F B m ps) : Args w nob B m ps := h.mono (fun _ _ e => e.elim)
theorem ins_of {w : World} {F : Nat → Prop} {B : Option Addr} {m : Nat} {ps : List Pc} (h : Args w F B m ps) (hl : (catP ps).length ≤ 1048576) : Ins w B m ps := ⟨h.len, h.row, (args_nob h).pcs, h.max, by omega⟩
theorem hash_v [Inhabited Sha.ShaTab] [Inhabited Field.SqTab] (c : Vc) (x : Vt) (B : Option Addr) (n d : Nat) (ps : List Pc) (w : World) (h : Vx w c x) (hp : Args w x.P B n ps) (hf : x.o.few 100000) (lp : (catP ps).length ≤ 1048576) :
    Calls Tryz.prog 35 #[.pointer (some ⟨c.v, 0, none⟩), .slice B n d] w fun e w' => ∃ F2 P2, e = .returned (.agg (bvs (x.o.val (hashT (catP ps)) 32)).toArray) ∧ Vq w c x w' ⟨F2, P2, x.o.nx (hashT (catP ps)), x.sl, x.cl⟩ := by
  obtain ⟨F, P, o, sl, cl⟩ := x
  cases o with
  | real f =>
    obtain ⟨hfe, ht, hs, hn⟩ := h.wd
    subst hfe
    refine (hash_real c.v c.m c.ms c.lim _ cl B n d ps w h.vs.b ht (ins_of hp lp)).mono ?_
    rintro e w' ⟨rfl, k⟩
    exact ⟨F, P, rfl, h.keep0 k, fun i e => .inl e, k.nob _⟩
  | dream ts =>
    refine (hash_ideal c.v c.m c.p F ts c.ms c.lim _ cl B n d ps w h.vs.b h.wd (hp.mono (fun i _ e => h.sub i e)) hf lp).mono ?_
    rintro e w' ⟨F2, rfl, q⟩
    exact ⟨F2, _, rfl, h.world q⟩
theorem key_v [Inhabited Sha.ShaTab] [Inhabited Field.SqTab] (c : Vc) (x : Vt) (s : ByteArray) (B : Option Addr) (n d : Nat) (ns : List Int) (w : World) (h : Vx w c x) (hn : ns.length = n) (hr : Row w B (ivs ns)) (hB : ∀ k, ab B = some k → k < w.heap.size) (hf : x.o.few 100000) (hs : s.size ≤ 100000) (hns : n ≤ 10000) :
    Calls Tryz.prog 22 #[.pointer (some ⟨c.v, 0, none⟩), .string s, .slice B n d] w fun e w' => ∃ F2 P2, e = .returned (.agg (bvs (x.o.val (derT c.ms (pur s ns)) 32)).toArray) ∧ Vq w c x w' ⟨F2, P2, x.o.nx (derT c.ms (pur s ns)), x.sl, x.cl⟩ := by
  obtain ⟨F, P, o, sl, cl⟩ := x
  cases o with
  | real f =>
    obtain ⟨hfe, ht, hs2, hn2⟩ := h.wd
    subst hfe
    refine (key_real c.v c.m c.ms c.lim _ cl s B n d ns w h.vs.b ht hn hr hB hs hns).mono ?_
    rintro e w' ⟨rfl, k⟩
    exact ⟨F, P, rfl, h.keep0 k, fun i e => .inl e, k.nob _⟩
  | dream ts =>
    refine (key_i c.v c.m c.p F ts c.ms c.lim _ cl s B n d ns w h.vs.b h.wd h.ne hn hr hB hf hs hns).mono ?_
    rintro e w' ⟨F2, rfl, q⟩
    exact ⟨F2, _, rfl, h.world q⟩
theorem Vx.sealed [Inhabited Sha.ShaTab] [Inhabited Field.SqTab] {w w2 : World} {c : Vc} {F P F2 : Nat → Prop} {o o2 : Ts} {sl sl2 : List (Pl × List UInt8)} {cl cl2 : Nat} {X : Option Addr} (h : Vx w c ⟨F, P, o, sl, cl⟩) (hmk : mkr o2 c.p = mkr o c.p)
    (hv : Vs (fun i => oth w F P i ∨ F2 i ∨ ab X = some i) w2 c.v c.m (mkr o c.p) c.ms c.lim sl2 cl2) (hd : Wd w2 c.b c.p F2 o2) (hf : ∀ i, F2 i → F i ∨ w.heap.size ≤ i) (hl : ∀ i, F2 i → i < w2.heap.size) (hx : ∀ i, ab X = some i → w.heap.size ≤ i ∧ ¬ F2 i) (k : Kp (uF F c.v c.m) w w2) :
    Vq w c ⟨F, P, o, sl, cl⟩ w2 ⟨F2, fun i => P i ∨ (w.heap.size ≤ i ∧ i < w2.heap.size ∧ ab X ≠ some i), o2, sl2, cl2⟩ := by
  have hs := k.size
  have h1 : c.v < w.heap.size := h.lt _ h.own.1
  have h2 : c.m < w.heap.size := h.lt _ h.own.2
  have hz : c.b ≤ w.heap.size := h.sz
  refine ⟨⟨?_, hd, fun i e => ?_, ⟨.inl h.own.1, .inl h.own.2⟩, ⟨fun e => (hf _ e).elim h.ne.1 (fun e => by omega), fun e => (hf _ e).elim h.ne.2 (fun e => by omega)⟩, fun i e => ?_, fun i e => ?_, by omega⟩, fun i e => ?_, k.mono (fun i _ e => ?_)⟩
  · show Vs _ w2 c.v c.m (mkr o2 c.p) c.ms c.lim sl2 cl2
    rw [hmk]
    refine hv.mono (fun i e => ?_)
    rcases e with e | ⟨e1, e2⟩
    · exact .inr (.inl e)
    · by_cases hl : i < w.heap.size
      · exact .inl (.inr ⟨hl, fun e => e2 (.inl e)⟩)
      · by_cases hX : ab X = some i
        · exact .inr (.inr hX)
        · exact absurd (.inr ⟨by omega, e1, hX⟩) e2
  · rcases hf i e with e3 | e3
    · exact .inl (h.sub i e3)
    · exact .inr ⟨e3, hl i e, fun e4 => (hx i e4).2 e⟩
  · rcases e with e | e
    · exact Nat.lt_of_lt_of_le (h.lt i e) hs
    · exact e.2.1
  · rcases e with e | e
    · exact h.ge i e
    · have := e.1; omega
  · rcases e with e | e
    · exact .inl e
    · exact .inr e.1
  · rcases e with e | e | e
    · exact h.sub i e
    · rw [e]; exact h.own.1
    · rw [e]; exact h.own.2
theorem Vx.olt [Inhabited Sha.ShaTab] [Inhabited Field.SqTab] {w : World} {c : Vc} {x : Vt} (h : Vx w c x) : ∀ k, oth w x.F x.P k → k < w.heap.size := fun k e => e.elim (fun e => h.lt k (h.sub k e)) (fun e => e.1)
theorem seal_v [Inhabited Sha.ShaTab] [Inhabited Field.SqTab] (c : Vc) (x : Vt) (key : List UInt8) (hk : key.length = 32) (e s : Int) (T : Option Addr) (nt ct' : Nat) (text : List UInt8) (B : Option Addr) (md d : Nat) (ps : List Pc) (w : World)
    (h : Vx w c x) (ht : Arg w x.P T nt ct' text) (hp : Args w x.P B md ps) (hf : x.o.few 100000) (lt : text.length ≤ 1048576) (lp : (catP ps).length ≤ 1048576) (hc : x.cl ≤ 1099511627776) (hr : refu c.lim e s = 0) :
    Calls Tryz.prog 65 #[.pointer (some ⟨c.v, 0, none⟩), .agg (bvs key).toArray, .int .i64 e, .int .i64 s, .slice T nt ct', .slice B md d] w fun r w' => ∃ F2 P2 X cX, r = .returned (.tuple #[.slice X (text.length + 16) cX, .int .i64 0]) ∧
      Vq w c x w' ⟨F2, P2, x.o.nx (sealT key (nonce e s) (catP ps) text), upd x.sl (pl key (nonce e s) hk (nonce_length e s)) text, x.cl + clash dift x.sl (pl key (nonce e s) hk (nonce_length e s)) text⟩ ∧ Ans w w' P2 X cX (x.o.val (sealT key (nonce e s) (catP ps) text) (text.length + 16)) := by
  obtain ⟨F, P, o, sl, cl⟩ := x
  cases o with
  | real f =>
    obtain ⟨hfe, htb, hsq, hn⟩ := h.wd
    subst hfe
    refine (seal_realG dift (fun _ => True) note_any c.v c.m c.ms c.lim sl cl (oth w F P) key hk e s T nt ct' text B md d ps w h.vs h.olt (ht.mono (fun i _ e => ?_)) (hp.mono (fun i _ e => ?_)) lt lp hc hr hsq (fun _ _ => trivial)).mono ?_
    · rcases e with e | e
      · rw [e]; exact h.own.1
      · rw [e]; exact h.own.2
    · rcases e with e | e
      · rw [e]; exact h.own.1
      · rw [e]; exact h.own.2
    rintro r w' ⟨X, cX, rfl, hv, k, ha, hx⟩
    have h1 : c.v < w.heap.size := h.lt _ h.own.1
    have h2 : c.m < w.heap.size := h.lt _ h.own.2
    have h3 := h.ge _ h.own.1
    have h4 := h.ge _ h.own.2
    refine ⟨F, _, X, cX, rfl, Vx.sealed (X := X) h rfl (hv.mono (fun i e => ?_)) (h.wd.keep k (fun i e _ => hn.1 i e) (fun i e => ?_)) (fun i e => .inl e) (fun i e => absurd e (hn.1 i)) (fun i e => ⟨hx i e, hn.1 i⟩) (k.mono (fun i _ e => .inr e)), ⟨?_, fun i e => ⟨hx i e, ?_⟩, ?_, ha.mx, ha.nil⟩⟩
    · rcases e with e | e | e
      · exact .inl e
      · exact absurd e (hn.1 i)
      · exact .inr e
    · rcases e with e | e
      · rw [e]; exact h3
      · rw [e]; exact h4
    · exact ha.row
    · intro e2
      rcases e2 with e2 | e2
      · have := h.lt i e2; have := hx i e; simp only at *; omega
      · exact e2.2.2 e
    · have := ha.cap
      show (gs (allW key) 13 (nonce e s) text (catP ps)).length ≤ cX
      rw [ha.len]; exact this
  | dream ts =>
    refine (seal_yesG dift (fun _ => True) note_any c.v c.m c.p F ts c.ms c.lim sl cl (oth w F P) key hk e s T nt ct' text B md d ps w h.vs h.olt (fun k e => .inl e) h.wd h.ne (ht.mono (fun i _ e => ?_)) (hp.mono (fun i _ e => ?_)) hf lt lp hc hr (fun _ _ => trivial)).mono ?_
    · rcases e with e | e | e
      · exact h.sub i e
      · rw [e]; exact h.own.1
      · rw [e]; exact h.own.2
    · rcases e with e | e | e
      · exact h.sub i e
      · rw [e]; exact h.own.1
      · rw [e]; exact h.own.2
    rintro r w' ⟨F2, X, cX, rfl, q⟩
    refine ⟨F2, _, X, cX, rfl, Vx.sealed (X := X) h rfl q.vs q.iw q.f (Iw.lt q.iw) (fun i e => ⟨(q.x.far i e).1, fun e2 => (q.x.far i e).2 (.inl e2)⟩) q.kp, ⟨q.x.row, fun i e => ⟨(q.x.far i e).1, ?_⟩, q.x.cap, q.x.mx, q.x.nil⟩⟩
    intro e2
    rcases e2 with e2 | e2
    · have := h.lt i e2; have := (q.x.far i e).1; simp only at *; omega
    · exact e2.2.2 e
theorem seal_vno [Inhabited Sha.ShaTab] [Inhabited Field.SqTab] (c : Vc) (x : Vt) (key : List UInt8) (e s : Int) (T B : Value) (w : World) (h : Vx w c x) (hr : refu c.lim e s ≠ 0) :
    Calls Tryz.prog 65 #[.pointer (some ⟨c.v, 0, none⟩), .agg (bvs key).toArray, .int .i64 e, .int .i64 s, T, B] w fun r w' => r = .returned (.tuple #[.slice none 0 0, .int .i64 (refu c.lim e s)]) ∧ Kp nob w w' :=
  seal_no c.v c.m (mkr x.o c.p) c.ms c.lim _ x.cl _ e s T B w key rfl h.vs.b hr
theorem open_v [Inhabited Sha.ShaTab] [Inhabited Field.SqTab] (c : Vc) (x : Vt) (key : List UInt8) (hk : key.length = 32) (e s : Int) (T : Option Addr) (nt ct' : Nat) (b text : List UInt8) (B : Option Addr) (md d : Nat) (ps : List Pc) (w : World)
    (h : Vx w c x) (ht : Arg w x.P T nt ct' b) (hp : Args w x.P B md ps) (hf : x.o.few 100000) (lt : text.length ≤ 1048576) (lp : (catP ps).length ≤ 1048576) (hr : refu c.lim e s = 0)
    (hb : b = x.o.val (sealT key (nonce e s) (catP ps) text) (text.length + 16)) (hh : x.o.has (sealT key (nonce e s) (catP ps) text)) :
    Calls Tryz.prog 82 #[.pointer (some ⟨c.v, 0, none⟩), .agg (bvs key).toArray, .int .i64 e, .int .i64 s, .slice T nt ct', .slice B md d] w fun r w' => ∃ X cX, r = .returned (.tuple #[.slice X text.length cX, .int .i64 0]) ∧ Row w' X (bvs text) ∧ Kp nob w w' ∧ ∀ k, ab X = some k → w.heap.size ≤ k := by
  obtain ⟨F, P, o, sl, cl⟩ := x
  cases o with
  | real f =>
    obtain ⟨hfe, htb, hsq, hn⟩ := h.wd
    subst hfe
    exact open_real c.v c.m c.ms c.lim sl cl _ key hk e s T nt ct' b text B md d ps P w h.vs (ht.mono (fun _ _ e => e.elim)) hp lt hb lp hr hsq
  | dream ts =>
    have hf : ts.length ≤ 100000 := hf
    have hbl : b.length = text.length + 16 := by rw [hb]; exact Ideal.out_length _ _ _ (by omega)
    refine (open_yes _ c.v c.m c.p F ts c.ms c.lim sl cl key hk e s T nt ct' b B md d ps w h.vs h.wd (ht.mono (fun i _ e => h.sub i e)) (hp.mono (fun i _ e => h.sub i e)) hf (by omega) lp hr).mono ?_
    rintro r w' ⟨X, cX, rfl, k, hrow, hx⟩
    have ho : opn ts key (nonce e s) (catP ps) b = some text := by rw [hb]; exact Ideal.opn_has ts key (nonce e s) (catP ps) text (by omega) hh
    rw [ho] at hrow ⊢
    exact ⟨X, cX, rfl, hrow, k, hx⟩
end Go.Proofs.YtiimfhacnfdmhaaGreat.Vault
namespace Go.Proofs.YtiimfhacnfdmhaaGreat.Vault
open Go Go.RowKit Kit
open Ideal (Iw Iq Ans Arg Args Thing mk out sealT opn derT hashT z32 Ts)
open Sha (Pc PcsOk catP)
open Field (Sq)
theorem Vq.refl [Inhabited Sha.ShaTab] [Inhabited Field.SqTab] {w : World} {c : Vc} {x : Vt} (h : Vx w c x) : Vq w c x w x := ⟨h, fun i e => .inl e, Kp.refl _ _⟩
theorem Vq.back [Inhabited Sha.ShaTab] [Inhabited Field.SqTab] {w w1 w2 : World} {c : Vc} {x x2 : Vt} (h : Vq w1 c x w2 x2) (k : Kp nob w w1) : Vq w c x w2 x2 :=
  ⟨h.now, fun i e => (h.P i e).elim .inl (fun e => .inr (by have := k.size; omega)), (k.nob x.P).trans h.kp (fun i e => .inl e)⟩
theorem Vq.over [Inhabited Sha.ShaTab] [Inhabited Field.SqTab] {w w2 w3 : World} {c : Vc} {x x2 : Vt} {H : Nat → Prop} (h : Vq w c x w2 x2) (k : Kp H w2 w3) (hH : ∀ i, i < w2.heap.size → H i → w.heap.size ≤ i ∧ ¬ x2.P i) (hb : c.b ≤ w.heap.size) : Vq w c x w3 x2 :=
  ⟨h.now.keep k (fun i l e => ⟨by have := (hH i l e).1; omega, (hH i l e).2⟩), h.P, h.kp.trans (Kp.low k) (fun i e => .inr (hH i e.1 e.2).1)⟩
theorem Vq.over0 [Inhabited Sha.ShaTab] [Inhabited Field.SqTab] {w w2 w3 : World} {c : Vc} {x x2 : Vt} (h : Vq w c x w2 x2) (k : Kp nob w2 w3) : Vq w c x w3 x2 := ⟨h.now.keep0 k, h.P, h.kp.trans k (fun i e => e.elim)⟩
theorem Vq.trans [Inhabited Sha.ShaTab] [Inhabited Field.SqTab] {w w2 w3 : World} {c : Vc} {x x2 x3 : Vt} (h : Vq w c x w2 x2) (g : Vq w2 c x2 w3 x3) : Vq w c x w3 x3 :=
  ⟨g.now, fun i e => (g.P i e).elim (h.P i) (fun e => .inr (by have := h.kp.size; omega)), h.kp.trans g.kp (fun i e => h.P i e)⟩
theorem Vq.new [Inhabited Sha.ShaTab] [Inhabited Field.SqTab] {w w1 w2 : World} {c : Vc} {x x2 : Vt} (h : Vq w1 c x w2 x2) (hx : Vx w c x) {i : Nat} (h1 : w.heap.size ≤ i) (h2 : i < w1.heap.size) : ¬ x2.P i := fun e =>
  (h.P i e).elim (fun e => by have := hx.lt i e; omega) (fun e => by omega)
theorem Vq.old [Inhabited Sha.ShaTab] [Inhabited Field.SqTab] {w w2 : World} {c : Vc} {x x2 : Vt} (h : Vq w c x w2 x2) {i : Nat} (h1 : ¬ x.P i) (h2 : i < w.heap.size) : ¬ x2.P i := fun e =>
  (h.P i e).elim h1 (fun e => by omega)
theorem Vq.blk [Inhabited Sha.ShaTab] [Inhabited Field.SqTab] {w w2 : World} {c : Vc} {x x2 : Vt} (h : Vq w c x w2 x2) {g : Nat} {t : TypeId} {cs : List Value} (hb : Blk w g t cs) (hg : ¬ x.P g) : Blk w2 g t cs := hb.keep h.kp hg
theorem Vq.arg [Inhabited Sha.ShaTab] [Inhabited Field.SqTab] {w w2 : World} {c : Vc} {x x2 : Vt} (h : Vq w c x w2 x2) {A : Option Addr} {n d : Nat} {l : List UInt8} (ha : Arg w x.P A n d l) : Arg w2 x2.P A n d l :=
  ⟨ha.len, by
    rcases ha.far with e | e
    · rw [e]; exact Row.nil _ _
    · exact ha.row.keep h.kp e, by
    by_cases e : l = []
    · exact .inl e
    · exact .inr (fun i hi hp => (h.P i hp).elim (ha.far.resolve_left e i hi) (fun hl => by have := ha.row.lt (by simpa [bvs] using e) i hi; omega)), ha.cap, ha.mx, ha.nil⟩
theorem ans_arg {w w2 : World} {P : Nat → Prop} {A : Option Addr} {d : Nat} {l : List UInt8} (h : Ans w w2 P A d l) : Arg w2 P A l.length d l := ⟨rfl, h.row, .inr (fun i hi => (h.far i hi).2), h.cap, h.mx, h.nil⟩
theorem vx_real [Inhabited Sha.ShaTab] [Inhabited Field.SqTab] {w w1 : World} {v m : Nat} {ms : List UInt8} {lim : Nat} (h : Vb w1 v m rmk ms lim [] 0) (k : Kp nob w w1) (ht : Sha.Tabs w) (hs : Sq w) (hq : 2 < w.heap.size) (h1 : w.heap.size ≤ v) (h2 : w.heap.size ≤ m) :
    Vx w1 ⟨v, m, 0, ms, lim, w.heap.size⟩ ⟨fun _ => False, fun i => i = v ∨ i = m, .real rl, [], 0⟩ :=
  ⟨vs_new h, ⟨rfl, ht.keep0 k, hs.keep0 k, fun i e => e, fun i e => ht.far e, hq⟩, fun i e => e.elim, ⟨.inl rfl, .inr rfl⟩, ⟨fun e => e, fun e => e⟩, fun i e => by
    rcases e with rfl | rfl
    · exact h.b.lt
    · exact h.s.lt, fun i e => by
    rcases e with rfl | rfl
    · exact h1
    · exact h2, k.size⟩
theorem vx_ideal [Inhabited Sha.ShaTab] [Inhabited Field.SqTab] {w w1 w2 : World} {v m p : Nat} {F : Nat → Prop} {ms : List UInt8} {lim : Nat} (hq : Iq w nob w1 p F []) (hv : Vb w2 v m (imk p) ms lim [] 0) (k2 : Kp nob w1 w2) (n1 : w1.heap.size ≤ v) (n2 : w1.heap.size ≤ m) :
    Vx w2 ⟨v, m, p, ms, lim, w.heap.size⟩ ⟨F, fun i => F i ∨ i = v ∨ i = m, .dream [], [], 0⟩ := by
  have hs1 := hq.k.size
  have hs2 := k2.size
  have hF := Iw.lt hq.i
  refine ⟨vs_new hv, Iw.keep hq.i k2 (fun _ _ e => e), fun i e => .inl e, ⟨.inr (.inl rfl), .inr (.inr rfl)⟩, ⟨fun e => by have := hF _ e; simp only at *; omega, fun e => by have := hF _ e; simp only at *; omega⟩, fun i e => ?_, fun i e => ?_, by simp only; omega⟩
  · rcases e with e | rfl | rfl
    · have := hF _ e; omega
    · exact hv.b.lt
    · exact hv.s.lt
  · rcases e with e | rfl | rfl
    · exact (hq.f i e).elim (fun e => e.elim) (fun e => e)
    · simp only; omega
    · simp only; omega
theorem rl_long [Inhabited Sha.ShaTab] [Inhabited Field.SqTab] : (Ts.real rl).long := by
  refine ⟨fun t h => ?_, fun t h => ?_⟩
  · unfold rl
    rcases h with h | h | h
    · rw [if_pos h]; exact of_length _
    · rw [if_neg (by rw [h]; decide), if_pos h]; exact Hmac.mac_length _ _
    · rw [if_neg (by rw [h]; decide), if_neg (by rw [h]; decide), if_pos h]; exact Kdf.expand_length _ _ _
  · unfold rl
    rw [if_neg (by rw [h]; decide), if_neg (by rw [h]; decide), if_neg (by rw [h]; decide)]
    exact Gcm.gs_length _ _ _ _ _
end Go.Proofs.YtiimfhacnfdmhaaGreat.Vault
namespace Go.Proofs.YtiimfhacnfdmhaaGreat.Seg
open Go Go.RowKit Kit
open Rec (Rec good ftot fsec split Rrow Sr SrOk)
open Ideal (Ts Thing Arg Args Ans)
open Vault (Vc Vt Vx Vq)
def SizeC : Prop := ∀ (A : Option Addr) (m d : Nat) (rs : List Rec) (w : World), rs.length = m → Rrow w A rs → ftot rs ≤ 1099511627776 → m ≤ 1000000 →
  Calls Tryz.prog 11 #[.slice A m d] w fun e w' => e = .returned (.int .i64 (ftot rs : Nat)) ∧ Kp nob w w'
def SectorsC : Prop := ∀ (A : Option Addr) (m d : Nat) (rs : List Rec) (w : World), rs.length = m → Rrow w A rs → ftot rs ≤ 1099511627776 → m ≤ 1000000 →
  Calls Tryz.prog 13 #[.slice A m d] w fun e w' => e = .returned (.int .i64 (fsec rs : Nat)) ∧ Kp nob w w'
def LengthC : Prop := ∀ (A : Option Addr) (n c : Nat) (l : List UInt8) (w : World), l.length = n → Row w A (bvs l) → n ≤ 1048576 → (A = none → c = 0) → n ≤ c → c ≤ maxLen →
  Calls Tryz.prog 30 #[.slice A n c] w fun e w' => e = .returned (.int .i64 (lenF l : Nat)) ∧ Kp nob w w'
def PackF : Type := Ts → List UInt8 → Nat → Int → Int → List UInt8 → List Rec → Packed
def PackC [Inhabited Sha.ShaTab] [Inhabited Field.SqTab] (pk : PackF) : Prop := ∀ (c : Vc) (x : Vt) (e s : Int) (at' : List UInt8) (A : Option Addr) (m d : Nat) (rs : List Rec) (w : World), Vx w c x → at'.length = 32 → rs.length = m → Rrow w A rs → (rs = [] ∨ ∀ i, ab A = some i → ¬ x.P i) →
  m ≤ 1000 → (∀ r ∈ rs, r.body.length ≤ 4096) → x.o.few 10000 → x.o.long → x.cl ≤ 1000000 → (-9223372036854775808 ≤ e ∧ e ≤ 9223372036854775807) → (-9223372036854775808 ≤ s ∧ s ≤ 9223372036854775807) → c.lim ≤ 9223372036854775807 →
  Calls Tryz.prog 23 #[.pointer (some ⟨c.v, 0, none⟩), .int .i64 e, .int .i64 s, .agg (bvs at').toArray, .slice A m d] w fun r w' => ∃ (F2 P2 : Nat → Prop) (sl2 : List (Vault.Pl × List UInt8)) (cl2 : Nat) (X : Option Addr) (cX : Nat),
    r = .returned (.tuple #[.slice X (pk x.o c.ms c.lim e s at' rs).b.length cX, .agg (bvs (pk x.o c.ms c.lim e s at' rs).h).toArray, .int .i64 (pk x.o c.ms c.lim e s at' rs).e]) ∧
      Vq w c x w' ⟨F2, P2, (pk x.o c.ms c.lim e s at' rs).o, sl2, cl2⟩ ∧ cl2 ≤ x.cl + m ∧ Ans w w' P2 X cX (pk x.o c.ms c.lim e s at' rs).b
structure PackS (pk : PackF) : Prop where
  err : ∀ o ms lim e s at' rs, (pk o ms lim e s at' rs).e = perr lim e s rs
  begins : ∀ o ms lim e s at' rs, o.long → (pk o ms lim e s at' rs).e = 0 → ∃ rest, (pk o ms lim e s at' rs).b = num8 (ftot rs : Nat) ++ rest ∧ ftot rs = 8 + rest.length
  few : ∀ o ms lim e s at' rs n, Ts.few o n → rs.length ≤ 1000 → (pk o ms lim e s at' rs).o.few (n + 10000)
  long : ∀ o ms lim e s at' rs, Ts.long o → (pk o ms lim e s at' rs).o.long
  h32 : ∀ o ms lim e s at' rs, Ts.long o → at'.length = 32 → (pk o ms lim e s at' rs).h.length = 32
def UnpackC [Inhabited Sha.ShaTab] [Inhabited Field.SqTab] (pk : PackF) : Prop := ∀ (c : Vc) (x : Vt) (o : Ts) (e s : Int) (at' : List UInt8) (A : Option Addr) (n d : Nat) (b : List UInt8) (rs : List Rec) (w : World), Vx w c x → at'.length = 32 → (pk o c.ms c.lim e s at' rs).e = 0 →
  b = (pk o c.ms c.lim e s at' rs).b → (pk o c.ms c.lim e s at' rs).o.sub x.o → Arg w x.P A n d b → (-9223372036854775808 ≤ e ∧ e ≤ 9223372036854775807) → (-9223372036854775808 ≤ s ∧ s ≤ 9223372036854775807) → c.lim ≤ 9223372036854775807 → x.o.few 30000 → x.o.long →
  Calls Tryz.prog 29 #[.pointer (some ⟨c.v, 0, none⟩), .int .i64 e, .int .i64 s, .agg (bvs at').toArray, .slice A n d] w fun r w' => ∃ (F2 P2 : Nat → Prop) (o2 : Ts) (sl2 : List (Vault.Pl × List UInt8)) (cl2 : Nat) (X : Option Addr) (cX : Nat),
    r = .returned (.tuple #[.slice X rs.length cX, .agg (bvs (pk o c.ms c.lim e s at' rs).h).toArray, .int .i64 0]) ∧ Vq w c x w' ⟨F2, P2, o2, sl2, cl2⟩ ∧ SrOk w' ⟨X, rs.length, cX, rs⟩
end Go.Proofs.YtiimfhacnfdmhaaGreat.Seg
namespace Go.Proofs.YtiimfhacnfdmhaaGreat.Kit
open Go Go.RowKit
def behindB (md : Region.Mode) (ops : Array Oper) (l : Nat) (E : List Nat) : Bool := E.all fun i => ((ops[i]?).map fun o => o.after.any fun e => (e.on == l || E.contains e.on) && Region.binds md e).getD false
section
variable {P : Program} {md : Region.Mode} {ops : Array Oper} {Q : Exit → Act → World → Prop} {S : World → Prop}
theorem reg_vaultS {X : Type} (C D E : List Nat) (l s d0 : Nat) (Z : List (Nat × Option Tmp)) (L0 LM : Array Bool) (a0 : Act) (w0 : World) (f n : Nat) (T : Nat → X → World → Prop) (own : X → Nat → Prop) (val : Nat → X → Value) (ew : Nat → X → Value) (N : Nat) (ty : Nat → TypeId) (zs : Nat → List Value) (fv : Nat → Nat → Value) (hs : X → List Value)
    (hn : ops.size = n) (hL0 : L0.size = n) (hZ : (D ++ (C ++ (E ++ [s]))).map (fun i => (i, (ops[i]?).bind (·.dst))) = Z)
    (hap : apartB (fun i => (ops[i]?).bind (·.dst)) (D ++ (C ++ (E ++ [s]))) = true) (hcl : closedB md ops (lst L0) = true) (hah : aheadB md ops (lst L0) (D ++ (C ++ (E ++ [s]))) = true) (hch : chainB md ops C = true) (hbe : behindB md ops l E = true) (hse : (((ops[s]?).map fun o => (o.after.any fun e => (e.on == l || E.contains e.on) && Region.binds md e) && (o.after.any fun e => e.on == d0 && Region.binds md e)).getD false) = true) (hd0 : d0 ∈ D) (hl : 0 < C.length ∧ C[C.length - 1]? = some l)
    (hsz : ((D ++ (C ++ (E ++ [s]))).all fun i => match (ops[i]?).bind (·.dst) with | some d => decide (d < a0.tmps.size) | none => true) = true) (hLM : (D ++ (C ++ (E ++ [s]))).foldl (fun l i => l.setIfInBounds i true) L0 = LM)
    (hw : ((D ++ (C ++ (E ++ [s]))).all fun i => ((ops[i]?).map fun o => o.guard.isNone).getD false) = true)
    (hS : ∀ p x w, T p x w → S w) (hN : ∀ p x w, T p x w → N ≤ w.heap.size) (hlt : ∀ p x w, T p x w → ∀ i, own x i → i < w.heap.size) (hT : ∀ p x w o, T p x w → T p x (w.alloc o)) (x0 : X) (h0 : T 0 x0 w0)
    (hcall : ∀ (p : Nat) (h : p < C.length) (o : Oper) (a : Act) (w : World) (x : X), ops[C[p]]? = some o → (∀ t, ((D ++ (C ++ (E ++ [s]))).all fun j => (ops[j]?).bind (·.dst) != some t) = true → a.eval (.tmp t) = a0.eval (.tmp t)) →
      (∀ r (hr : r < p) t, (ops[C[r]]?).bind (·.dst) = some t → a.eval (.tmp t) = val r x) →
      (∀ d ∈ D, (o.after.any fun e => e.on == d && Region.binds md e) = true → ∀ t, (ops[d]?).bind (·.dst) = some t → ∃ g, a.eval (.tmp t) = fv d g ∧ Blk w g (ty d) (zs d) ∧ N ≤ g ∧ ¬ own x g) → T p x w →
      ∀ K' : Act → World → Prop, (∀ u x' w', u = val p x' → (∀ r, r < p → val r x' = val r x) → T (p + 1) x' w' → (∀ i, own x' i → own x i ∨ w.heap.size ≤ i) → Kp (own x) w w' → K' (a.put o.dst u) w') → Oper.wp P o a w K' Q)
    (hnew : ∀ d ∈ D, ∀ (o : Oper) (a : Act) (w : World), ops[d]? = some o → (∀ t, ((D ++ (C ++ (E ++ [s]))).all fun j => (ops[j]?).bind (·.dst) != some t) = true → a.eval (.tmp t) = a0.eval (.tmp t)) → (execOp a.eval o).run P w = .ok (.value (fv d w.heap.size)) (w.alloc (.cells (zs d).toArray (ty d))))
    (hqt : ∀ e ∈ E, ∀ (o : Oper) (a : Act) (w : World) (x : X), ops[e]? = some o → (∀ r (hr : r < C.length) t, (ops[C[r]]?).bind (·.dst) = some t → a.eval (.tmp t) = val r x) →
      (∀ j ∈ E, (o.after.any fun e => e.on == j && Region.binds md e) = true → ∀ t, (ops[j]?).bind (·.dst) = some t → a.eval (.tmp t) = ew j x) → T C.length x w → (execOp a.eval o).run P w = .ok (.value (ew e x)) w)
    (hTg : ∀ x w w' g, T C.length x w → N ≤ g → ¬ own x g → Kp (fun i => i = g) w w' → T C.length x w')
    (hst : ∀ (o : Oper) (a : Act) (w : World) (x : X) (g : Nat), ops[s]? = some o → (∀ j ∈ E, (o.after.any fun e => e.on == j && Region.binds md e) = true → ∀ t, (ops[j]?).bind (·.dst) = some t → a.eval (.tmp t) = ew j x) →
      (∀ t, (ops[d0]?).bind (·.dst) = some t → a.eval (.tmp t) = fv d0 g) → Blk w g (ty d0) (zs d0) → T C.length x w → ∀ K' : Act → World → Prop, (∀ w', Blk w' g (ty d0) (hs x) → Kp (fun i => i = g) w w' → K' (a.put o.dst undef) w') → Oper.wp P o a w K' Q)
    (hK : ∀ (vals : Nat → Value) (x : X) (w : World), (∀ p (h : p < C.length), vals C[p] = val p x) → (∃ g, vals d0 = fv d0 g ∧ Blk w g (ty d0) (hs x) ∧ N ≤ g ∧ ¬ own x g) → (∀ e ∈ E, vals e = ew e x) → vals s = undef → T C.length x w → wpAnyH P md ops Q S f LM (putZ vals Z a0) w) :
    wpAnyH P md ops Q S (f + (D ++ (C ++ (E ++ [s]))).length) L0 a0 w0 := by
  have hpw := apart_of _ _ hap
  have hpC := (List.pairwise_append.1 (List.pairwise_append.1 hpw).2.1)
  have mC : ∀ p (h : p < C.length), C[p] ∈ D ++ (C ++ (E ++ [s])) := fun p h => List.mem_append_right _ (List.mem_append_left _ (List.getElem_mem h))
  have mD : ∀ d ∈ D, d ∈ D ++ (C ++ (E ++ [s])) := fun d h => List.mem_append_left _ h
  have mE : ∀ d ∈ E, d ∈ D ++ (C ++ (E ++ [s])) := fun d h => List.mem_append_right _ (List.mem_append_right _ (List.mem_append_left _ h))
  have mS : s ∈ D ++ (C ++ (E ++ [s])) := by simp
  have hne : ∀ p r (h : p < C.length) (h' : r < C.length), p ≠ r → C[p] ≠ C[r] := by
    intro p r h h' hpr e
    rcases Nat.lt_or_ge p r with hlt | hge
    · exact (List.pairwise_iff_getElem.1 hpC.1 p r h h' hlt).1 e
    · exact (List.pairwise_iff_getElem.1 hpC.1 r p h' h (by omega)).1 e.symm
  have hq : ∀ d ∈ D, ∀ p (h : p < C.length), C[p] ≠ d := fun d hd p h e => ((List.pairwise_append.1 hpw).2.2 d hd C[p] (List.mem_append_left _ (List.getElem_mem h))).1 e.symm
  have hqE : ∀ d ∈ E, ∀ p (h : p < C.length), C[p] ≠ d := fun d hd p h e => (hpC.2.2 C[p] (List.getElem_mem h) d (List.mem_append_left _ hd)).1 e
  have hqS : ∀ p (h : p < C.length), C[p] ≠ s := fun p h e => (hpC.2.2 C[p] (List.getElem_mem h) s (by simp)).1 e
  have hES : ∀ d ∈ E, d ≠ s := fun d hd e => ((List.pairwise_append.1 hpC.2.1).2.2 d hd s (by simp)).1 e
  have hDS : ∀ d ∈ D, d ≠ s := fun d hd e => ((List.pairwise_append.1 hpw).2.2 d hd s (by simp)).1 e
  have hDE : ∀ d ∈ D, ∀ e ∈ E, d ≠ e := fun d hd e he h => ((List.pairwise_append.1 hpw).2.2 d hd e (List.mem_append_right _ (List.mem_append_left _ he))).1 h
  have hwant : ∀ i ∈ D ++ (C ++ (E ++ [s])), ∀ (o : Oper) (y : Nat → Option Bool), ops[i]? = some o → Region.wanted o y = true := by
    intro i hi o y ho
    have := List.all_eq_true.1 hw i hi
    rw [ho] at this
    simp only [Option.map_some, Option.getD_some, Option.isNone_iff_eq_none] at this
    unfold Region.wanted; rw [this]
  refine reg_many2 (D ++ (C ++ (E ++ [s]))) Z L0 LM a0 w0 f (fun L vals w => ∃ x k, k ≤ C.length ∧ (∀ p (h : p < C.length), L C[p] = decide (p < k)) ∧ T k x w ∧ (∀ p (h : p < C.length), p < k → vals C[p] = val p x) ∧ (∀ d ∈ D, L d = true → ∃ g, vals d = fv d g ∧ (L s = false → Blk w g (ty d) (zs d)) ∧ (L s = true → d = d0 → Blk w g (ty d) (hs x)) ∧ N ≤ g ∧ g < w.heap.size ∧ ¬ own x g) ∧ (∀ e ∈ E, L e = true → k = C.length ∧ vals e = ew e x) ∧ (L s = true → k = C.length ∧ vals s = undef ∧ L d0 = true))
    n hn hL0 hZ hap hcl hah hsz hLM (fun L vals w h => ?s) ?h0 ?st ?fin
  case s => obtain ⟨x, k, _, _, h, _⟩ := h; exact hS k x w h
  case h0 =>
    simp only [aheadB, Bool.and_eq_true, List.all_eq_true] at hah
    have hL : ∀ i ∈ D ++ (C ++ (E ++ [s])), lst L0 i = false := fun i hi => by have := (hah.2 i hi).1.2; simpa using this
    refine ⟨x0, 0, Nat.zero_le _, fun p h => by rw [hL _ (mC p h)]; simp, h0, fun p h e => by omega, fun d hd e => ?_, fun d hd e => ?_, fun e => ?_⟩
    · rw [hL d (mD d hd)] at e; cases e
    · rw [hL d (mE d hd)] at e; cases e
    · rw [hL s mS] at e; cases e
  case st =>
    intro L vals w a i o hi ho hL hd hJ ev e0 K' hK'
    rw [if_pos (hwant i hi o _ ho)]
    obtain ⟨x, k, hk, hLp, hTk, hv, hB, hE, hSs⟩ := hJ
    rcases List.mem_append.1 hi with hi | hi
    · unfold Oper.wp
      rw [hnew i hi o a w ho e0]
      refine hK'.out _ _ ⟨x, k, hk, fun r hr => ?_, hT k x w _ hTk, fun r hr hlt2 => ?_, fun d hdD e => ?_, fun d hdE e => ?_, fun e => ?_⟩
      · rw [upd_other _ _ _ _ (hq i hi r hr)]; exact hLp r hr
      · rw [upd_other _ _ _ _ (hq i hi r hr)]; exact hv r hr hlt2
      · rw [upd_other _ _ _ _ (hDS i hi).symm]
        by_cases hdi : d = i
        · subst hdi
          exact ⟨w.heap.size, by rw [upd_same], fun _ => Blk.new w (ty d) (zs d), (fun e1 e2 => by have := (hSs e1).2.2; rw [← e2, hL] at this; cases this), hN k x w hTk, by simp, fun e => by have := hlt k x w hTk _ e; omega⟩
        · rw [upd_other _ _ _ _ hdi] at e ⊢
          obtain ⟨g', h5, h6, h9, h7, h10, h8⟩ := hB d hdD e
          exact ⟨g', h5, fun e => (h6 e).alloc _, fun e1 e2 => (h9 e1 e2).alloc _, h7, by simp; omega, h8⟩
      · rw [upd_other _ _ _ _ (hDE i hi d hdE).symm] at e ⊢
        exact hE d hdE e
      · rw [upd_other _ _ _ _ (hDS i hi).symm] at e ⊢
        obtain ⟨a1, a2, a3⟩ := hSs e
        refine ⟨a1, a2, ?_⟩
        by_cases hdi : d0 = i
        · rw [hdi, upd_same]
        · rw [upd_other _ _ _ _ hdi]; exact a3
    rcases List.mem_append.1 hi with hi | hi
    · obtain ⟨p, hp, rfl⟩ := List.mem_iff_getElem.1 hi
      have h1 := hLp p hp
      rw [hL] at h1
      have h2 : ¬ p < k := by simpa using h1.symm
      have h3 : p = k := by
        cases p with
        | zero => omega
        | succ p =>
          obtain ⟨e, he, h4, h5⟩ := chain_at C hch p hp o ho
          have := hd e he h5
          rw [h4, hLp p (by omega)] at this
          have : p < k := by simpa using this
          omega
      subst h3
      have hLs : L s = false := by
        cases h : L s with
        | false => rfl
        | true => have := (hSs h).1; omega
      refine hcall p hp o a w x ho e0 (fun r hr t ht => ?_) (fun d hdD hany t ht => ?_) hTk K' ?_
      · rw [ev _ (mC r (by omega)) (by rw [hLp r (by omega)]; simpa using hr) t ht]
        exact hv r (by omega) hr
      · obtain ⟨e, he, h5⟩ := Array.any_eq_true'.1 hany
        simp only [Bool.and_eq_true, beq_iff_eq] at h5
        have hLd : L d = true := by have := hd e he h5.2; rw [h5.1] at this; exact this
        rw [ev d (mD d hdD) hLd t ht]
        obtain ⟨g', h5, h6, h9, h7, h10, h8⟩ := hB d hdD hLd
        exact ⟨g', h5, h6 hLs, h7, h8⟩
      intro u x' w' hu hval hT' hown hkp
      refine hK'.out _ _ ⟨x', p + 1, by omega, fun r hr => ?_, hT', fun r hr hlt2 => ?_, fun d hdD e => ?_, fun d hdE e => ?_, fun e => ?_⟩
      · by_cases hrp : r = p
        · subst hrp; rw [upd_same]; simp
        · rw [upd_other _ _ _ _ (hne r p hr hp hrp), hLp r hr]
          congr 1
          exact propext ⟨fun h => by omega, fun h => by omega⟩
      · by_cases hrp : r = p
        · subst hrp; rw [upd_same]; exact hu
        · rw [upd_other _ _ _ _ (hne r p hr hp hrp), hv r hr (by omega), hval r (by omega)]
      · rw [upd_other _ _ _ _ (hq d hdD p hp).symm] at e ⊢
        rw [upd_other _ _ _ _ (hqS p hp).symm]
        obtain ⟨g', h5, h6, h9, h7, h10, h8⟩ := hB d hdD e
        exact ⟨g', h5, fun e => (h6 e).keep hkp h8, (fun e => by rw [hLs] at e; cases e), h7, Nat.lt_of_lt_of_le h10 hkp.size, fun e => (hown g' e).elim h8 (fun e => by omega)⟩
      · rw [upd_other _ _ _ _ (hqE d hdE p hp).symm] at e
        have := (hE d hdE e).1
        omega
      · rw [upd_other _ _ _ _ (hqS p hp).symm, hLs] at e; cases e
    rcases List.mem_append.1 hi with hi | hi
    · have hkl : k = C.length := by
        have h1 := List.all_eq_true.1 hbe i hi
        rw [ho] at h1
        simp only [Option.map_some, Option.getD_some] at h1
        obtain ⟨e, he, h5⟩ := Array.any_eq_true'.1 h1
        simp only [Bool.and_eq_true, Bool.or_eq_true, beq_iff_eq] at h5
        have hLe := hd e he h5.2
        rcases h5.1 with h6 | h6
        · obtain ⟨hpos, hlast⟩ := hl
          have hlast2 : C[C.length - 1]'(by omega) = l := by
            rw [List.getElem?_eq_getElem (by omega)] at hlast
            exact Option.some.inj hlast
          rw [h6, ← hlast2, hLp (C.length - 1) (by omega)] at hLe
          have : C.length - 1 < k := by simpa using hLe
          omega
        · exact (hE e.on (by simpa using h6) hLe).1
      subst hkl
      unfold Oper.wp
      rw [hqt i hi o a w x ho (fun r hr t ht => ?a1) (fun j hj hany t ht => ?a2) hTk]
      case a1 =>
        rw [ev _ (mC r hr) (by rw [hLp r hr]; simpa using hr) t ht]
        exact hv r hr hr
      case a2 =>
        obtain ⟨e, he, h5⟩ := Array.any_eq_true'.1 hany
        simp only [Bool.and_eq_true, beq_iff_eq] at h5
        have hLd : L j = true := by have := hd e he h5.2; rw [h5.1] at this; exact this
        rw [ev j (mE j hj) hLd t ht]
        exact (hE j hj hLd).2
      refine hK'.out _ _ ⟨x, C.length, Nat.le_refl _, fun r hr => ?_, hTk, fun r hr hlt2 => ?_, fun d hdD e => ?_, fun d hdE e => ⟨rfl, ?_⟩, fun e => ?_⟩
      · rw [upd_other _ _ _ _ (hqE i hi r hr)]; exact hLp r hr
      · rw [upd_other _ _ _ _ (hqE i hi r hr)]; exact hv r hr hlt2
      · rw [upd_other _ _ _ _ (hDE d hdD i hi)] at e ⊢
        rw [upd_other _ _ _ _ (hES i hi).symm]
        exact hB d hdD e
      · by_cases hdi : d = i
        · subst hdi; rw [upd_same]
        · rw [upd_other _ _ _ _ hdi] at e ⊢
          exact (hE d hdE e).2
      · rw [upd_other _ _ _ _ (hES i hi).symm] at e ⊢
        rw [upd_other _ _ _ _ (hDE d0 hd0 i hi)]
        exact hSs e
    · obtain rfl : i = s := by simpa using hi
      have h1 := hse
      rw [ho] at h1
      simp only [Option.map_some, Option.getD_some, Bool.and_eq_true] at h1
      have hkl : k = C.length := by
        obtain ⟨e, he, h5⟩ := Array.any_eq_true'.1 h1.1
        simp only [Bool.and_eq_true, Bool.or_eq_true, beq_iff_eq] at h5
        have hLe := hd e he h5.2
        rcases h5.1 with h6 | h6
        · obtain ⟨hpos, hlast⟩ := hl
          have hlast2 : C[C.length - 1]'(by omega) = l := by
            rw [List.getElem?_eq_getElem (by omega)] at hlast
            exact Option.some.inj hlast
          rw [h6, ← hlast2, hLp (C.length - 1) (by omega)] at hLe
          have : C.length - 1 < k := by simpa using hLe
          omega
        · exact (hE e.on (by simpa using h6) hLe).1
      subst hkl
      have hLd0 : L d0 = true := by
        obtain ⟨e, he, h5⟩ := Array.any_eq_true'.1 h1.2
        simp only [Bool.and_eq_true, beq_iff_eq] at h5
        have := hd e he h5.2; rw [h5.1] at this; exact this
      obtain ⟨g, h5, h6, h9, h7, h10, h8⟩ := hB d0 hd0 hLd0
      refine hst o a w x g ho (fun j hj hany t ht => ?_) (fun t ht => by rw [ev d0 (mD d0 hd0) hLd0 t ht]; exact h5) (h6 hL) hTk K' ?_
      · obtain ⟨e, he, h5⟩ := Array.any_eq_true'.1 hany
        simp only [Bool.and_eq_true, beq_iff_eq] at h5
        have hLd : L j = true := by have := hd e he h5.2; rw [h5.1] at this; exact this
        rw [ev j (mE j hj) hLd t ht]
        exact (hE j hj hLd).2
      intro w' hb' hk'
      refine hK'.out _ _ ⟨x, C.length, Nat.le_refl _, fun r hr => ?_, hTg x w w' g hTk h7 h8 hk', fun r hr hlt2 => ?_, fun d hdD e => ?_, fun d hdE e => ⟨rfl, ?_⟩, fun e => ⟨rfl, by rw [upd_same], by rw [upd_other _ _ _ _ (hDS d0 hd0)]; exact hLd0⟩⟩
      · rw [upd_other _ _ _ _ (hqS r hr)]; exact hLp r hr
      · rw [upd_other _ _ _ _ (hqS r hr)]; exact hv r hr hlt2
      · rw [upd_other _ _ _ _ (hDS d hdD)] at e ⊢
        rw [upd_same]
        by_cases hdd : d = d0
        · subst hdd
          exact ⟨g, h5, (fun e => by cases e), fun _ _ => hb', h7, hb'.lt, h8⟩
        · obtain ⟨g', b5, b6, b9, b7, b10, b8⟩ := hB d hdD e
          exact ⟨g', b5, (fun e => by cases e), fun _ e => absurd e hdd, b7, Nat.lt_of_lt_of_le b10 hk'.size, b8⟩
      · rw [upd_other _ _ _ _ (hES d hdE)] at e ⊢
        exact (hE d hdE e).2
  case fin =>
    intro vals L w hall hJ
    obtain ⟨x, k, hk, hLp, hTk, hv, hB, hE, hSs⟩ := hJ
    have hkC : k = C.length := by
      rcases Nat.lt_or_ge k C.length with h | h
      · have h1 := hLp k h
        rw [hall _ (mC k h)] at h1
        simp at h1
      · omega
    subst hkC
    obtain ⟨g, h5, h6, h9, h7, h10, h8⟩ := hB d0 hd0 (hall d0 (mD d0 hd0))
    exact hK vals x w (fun p h => hv p h h) ⟨g, h5, h9 (hall s mS) rfl, h7, h8⟩ (fun e he => (hE e he (hall e (mE e he))).2) (hSs (hall s mS)).2.1 hTk
end
end Go.Proofs.YtiimfhacnfdmhaaGreat.Kit
namespace Go.Proofs.YtiimfhacnfdmhaaGreat.Seg
open Go Go.RowKit Kit
open Rec (Rec good ftot fsec split Rrow Sr SrOk)
open Ideal (Ts Thing Arg Args zc zc_run zc_length zc_eq)
open Vault
open Field (Sq)
structure NewV [Inhabited Sha.ShaTab] [Inhabited Field.SqTab] (w w' : World) (o : Ts) (at' : List UInt8) (lim : Nat) (c : Vc) (x : Vt) : Prop where
  vx : Vx w' c x
  o_ : x.o = o
  cl : x.cl = 0
  ms : c.ms = at'
  lm : c.lim = lim
  b : w.heap.size ≤ c.b
  k : Kp nob w w'
set_option maxHeartbeats 2000000 in
set_option maxRecDepth 100000 in
theorem kept_dream [Inhabited Sha.ShaTab] [Inhabited Field.SqTab] (at' : List UInt8) (w : World) (h : at'.length = 32) :
    Calls Tryz.prog 27 #[.bool false, .agg (bvs at').toArray] w fun e w' => ∃ c x, e = .returned (.pointer (some ⟨c.v, 0, none⟩)) ∧ NewV w w' (.dream []) at' 1099511627776 c x := by
  have HB := Lib.hid (show Blk (w.alloc (.cells (bvs at').toArray 32)).drew w.heap.size 32 (bvs at') from (Blk.new w _ _).keep (Kp.refl nob _).drew (fun e => e))
  have HK := Lib.hid (show Kp nob w (w.alloc (.cells (bvs at').toArray 32)).drew from ((Kp.refl nob w).alloc _).drew)
  have HL := Lib.hid h
  clear h
  go_enter Tryz.func27, Tryz.ntmps27
  go_wp2
  obtain ⟨wb, hwb⟩ : ∃ wb, wb = w.alloc (.cells (bvs at').toArray 32) := ⟨_, rfl⟩
  rw [← hwb] at HB HK ⊢
  clear hwb
  refine reg_begin (fun w2 => Blk w2 w.heap.size 32 (bvs at')) (by kernel_rfl) HB.out (fun _ => ?_)
  refine reg_load 1 (some 9) 32 (.tmp 3) rfl rfl rfl (by kernel_rfl) (by kernel_rfl) (by kernel_rfl) (by rfl) HB.out w.heap.size 0 rfl (bvs at') _ (fun w hw => hw.range) rarr_under rfl (rarr_size at' HL.out) ?_
  simp only [Act.put, List.setIfInBounds_toArray, List.set_cons_zero, List.set_cons_succ]
  refine reg_call 0 (some 8) rfl rfl (by kernel_rfl) (by rfl) _ _ (exec_func 32 _ _ [] rfl (by kernel_rfl) rfl) ?_
  refine (Ideal.new_i _).mono ?_
  rintro e w1 ⟨p, F, rfl, hq⟩
  have HQ := Lib.hid hq
  have HB1 := Lib.hid (HB.out.keep hq.k (fun e => e))
  clear hq
  refine ⟨_, rfl, HB1.out, fun _ => ?_⟩
  simp only [Act.put, List.setIfInBounds_toArray, List.set_cons_zero, List.set_cons_succ]
  refine reg_call 2 (some 10) rfl rfl (by kernel_rfl) (by rfl) _ _ (exec_func 31 _ _ [.pointer (some ⟨p, 0, none⟩), .agg (bvs at').toArray, .int .i64 1099511627776] rfl (by kernel_rfl) rfl) ?_
  refine (ideal_any p at' 1099511627776 w1 HL.out).mono ?_
  rintro e w2 ⟨v, m, rfl, hv, k2, n1, n2⟩
  have HB2 := Lib.hid (HB1.out.keep k2 (fun e => e))
  have HV := Lib.hid (vx_ideal HQ.out hv k2 n1 n2)
  have HK2 := Lib.hid ((HK.out.trans HQ.out.k (fun _ e => e.elim)).trans k2 (fun _ e => e.elim))
  clear hv k2 n1 n2
  refine ⟨_, rfl, HB2.out, fun _ => ?_⟩
  simp only [Act.put, List.setIfInBounds_toArray, List.set_cons_zero, List.set_cons_succ]
  refine reg_take (v := .pointer (some ⟨v, 0, none⟩)) 3 (some 4) rfl rfl (by kernel_rfl) (by kernel_rfl) (by kernel_rfl) (by rfl) HB2.out (fun w _ => by go_simp) ?_
  simp only [Act.put, List.setIfInBounds_toArray, List.set_cons_zero, List.set_cons_succ]
  refine reg_end (by kernel_rfl) ?_
  go_wp2
  go_ret
  exact ⟨_, _, rfl, HV.out, rfl, rfl, rfl, rfl, HK.out.size, HK2.out⟩
set_option maxHeartbeats 2000000 in
set_option maxRecDepth 100000 in
theorem kept_real [Inhabited Sha.ShaTab] [Inhabited Field.SqTab] (at' : List UInt8) (w : World) (h : at'.length = 32) (ht : Sha.Tabs w) (hs : Sq w) (hg : 2 < w.heap.size) :
    Calls Tryz.prog 27 #[.bool true, .agg (bvs at').toArray] w fun e w' => ∃ c x, e = .returned (.pointer (some ⟨c.v, 0, none⟩)) ∧ NewV w w' (.real rl) at' 1099511627776 c x := by
  have k0 : Kp nob w (w.alloc (.cells (bvs at').toArray 32)) := (Kp.refl nob w).alloc _
  have HB := Lib.hid (Blk.new w 32 (bvs at'))
  have HL := Lib.hid h
  have HT := Lib.hid (And.intro (ht.keep0 k0) (And.intro (hs.keep0 k0) (show 2 < (w.alloc (.cells (bvs at').toArray 32)).heap.size by simp; omega)))
  have HK := Lib.hid k0
  clear h k0 ht hs hg
  go_enter Tryz.func27, Tryz.ntmps27
  go_wp2_with (first
    | (refine wpList_load_blk rfl 32 (.tmp 3) rfl _ _ _ HB.out rfl _ rarr_under rfl (rarr_size at' HL.out) ?_)
    | (go_at_call 18; refine (real_any at' 1099511627776 _ HL.out).mono ?_; rintro e w2 ⟨v, m, rfl, hv, k2, n1, n2⟩; have HV := Lib.hid (vx_real hv k2 HT.out.1 HT.out.2.1 HT.out.2.2 n1 n2); have HK2 := Lib.hid (HK.out.trans k2 (fun _ e => e.elim)); clear hv k2 n1 n2)
    | fail)
  go_ret
  exact ⟨_, _, rfl, HV.out, rfl, rfl, rfl, rfl, HK.out.size, HK2.out⟩
end Go.Proofs.YtiimfhacnfdmhaaGreat.Seg
