/- The code's ideal world: a thing's number. -/
import Derived.Test.YtakhanganifpnaaIdealX
namespace Go.Proofs.Ytakhanganifpnaa.Ideal
set_option linter.unusedVariables false
set_option linter.unusedSimpArgs false
open Go Go.RowKit Kit

theorem map_under : Try.prog.underlying 53 = some (.map 61 3) := by kernel_rfl
theorem smap_under : Try.prog.underlying 54 = some (.map 3 61) := by kernel_rfl
set_option maxHeartbeats 2000000 in
set_option maxRecDepth 100000 in
theorem number_old (p bn bs : Nat) (cs : List Thing) (t : Thing) (w0 : World) (hw : Cx w0 p bn bs cs (fun _ => True)) (ht : t ∈ cs) :
    Calls Try.prog 22 #[.pointer (some ⟨p, 0, none⟩), .agg (tc t).toArray] w0 fun e w' => e = .returned (.int .i64 (num cs t : Nat)) ∧ Kp nob w0 w' := by
  obtain ⟨i, hi, he⟩ := List.mem_iff_getElem.1 ht
  have hit : cs[i]? = some t := by rw [List.getElem?_eq_getElem hi, he]
  have HN := Lib.hid (num_of_at cs t i hw.nd hit)
  have HW := Lib.hid hw
  have HK := Lib.hid (((Kp.refl nob w0).alloc (.cells (tc t).toArray 61)).drew)
  have HT := Lib.hid (show Blk ((w0.alloc (.cells (tc t).toArray 61)).drew) w0.heap.size 61 (tc t) from Blk.new w0 _ _)
  have HLK := Lib.hid ((hw.keep0 HK.out).n.look_has thing_keys (nps_keys cs) map_under t _ (nps_mem cs i t hit) (fun u hu => nps_one cs i t hit hw.nd u hu))
  have hc : ((w0.alloc (.cells (tc t).toArray 61)).drew).cell? ⟨p, 0, none⟩ = some (.map (some bn)) := by rw [(hw.keep0 HK.out).b.cell]; rfl
  go_enter Try.func22, Try.ntmps22
  clear hw ht hi he hit
  go_wp2
  generalize hw1 : (w0.alloc (.cells (tc t).toArray 61)).drew = w1 at *
  refine reg_begin (fun w2 => w2 = w1) (by kernel_rfl) hw1 (fun _ => ?_)
  rw [hw1]
  refine reg_take (v := .pointer (some ⟨p, 0, none⟩)) 0 (some 8) rfl rfl (by kernel_rfl) (by kernel_rfl) (by kernel_rfl) (by rfl) rfl (fun w hw => by go_simp) ?_
  simp only [Act.put, List.setIfInBounds_toArray, List.set_cons_zero, List.set_cons_succ]
  refine reg_take (v := .pointer (some ⟨p, 0, none⟩)) 1 (some 9) rfl rfl (by kernel_rfl) (by kernel_rfl) (by kernel_rfl) (by rfl) rfl (fun w hw => by go_simp) ?_
  simp only [Act.put, List.setIfInBounds_toArray, List.set_cons_zero, List.set_cons_succ]
  refine reg_take (v := .pointer (some ⟨p, 0, none⟩)) 2 (some 10) rfl rfl (by kernel_rfl) (by kernel_rfl) (by kernel_rfl) (by rfl) rfl (fun w hw => by go_simp) ?_
  simp only [Act.put, List.setIfInBounds_toArray, List.set_cons_zero, List.set_cons_succ]
  refine reg_take (v := .map (some bn)) 3 (some 11) rfl rfl (by kernel_rfl) (by kernel_rfl) (by kernel_rfl) (by rfl) rfl (fun w hw => by rw [hw]; go_simp) ?_
  simp only [Act.put, List.setIfInBounds_toArray, List.set_cons_zero, List.set_cons_succ]
  refine reg_load 4 (some 12) 61 (.tmp 3) rfl rfl rfl (by kernel_rfl) (by kernel_rfl) (by kernel_rfl) (by rfl) rfl (w0.heap.size) 0 rfl (tc t) _ (fun w hw => by rw [hw]; exact HT.out.range) cthing_under rfl (by kernel_rfl) ?_
  simp only [Act.put, List.setIfInBounds_toArray, List.set_cons_zero, List.set_cons_succ]
  refine reg_take (v := .tuple #[.int .i64 ((i : Int) + 1), .bool true]) 5 (some 13) rfl rfl (by kernel_rfl) (by kernel_rfl) (by kernel_rfl) (by rfl) rfl (fun w hw => by rw [hw]; exact exec_look (.tmp 11) (.tmp 12) 53 true rfl _ _ _ rfl rfl HLK.out) ?_
  simp only [Act.put, List.setIfInBounds_toArray, List.set_cons_zero, List.set_cons_succ]
  refine reg_take (v := .tuple #[.int .i64 ((i : Int) + 1), .bool true]) 6 (some 7) rfl rfl (by kernel_rfl) (by kernel_rfl) (by kernel_rfl) (by rfl) rfl (fun w hw => by go_simp) ?_
  simp only [Act.put, List.setIfInBounds_toArray, List.set_cons_zero, List.set_cons_succ]
  refine reg_take (v := .int .i64 ((i : Int) + 1)) 7 (some 14) rfl rfl (by kernel_rfl) (by kernel_rfl) (by kernel_rfl) (by rfl) rfl (fun w hw => by go_simp) ?_
  simp only [Act.put, List.setIfInBounds_toArray, List.set_cons_zero, List.set_cons_succ]
  refine reg_take (v := .bool true) 8 (some 15) rfl rfl (by kernel_rfl) (by kernel_rfl) (by kernel_rfl) (by rfl) rfl (fun w hw => by go_simp) ?_
  simp only [Act.put, List.setIfInBounds_toArray, List.set_cons_zero, List.set_cons_succ]
  refine reg_take (v := .int .i64 ((i : Int) + 1)) 9 (some 5) rfl rfl (by kernel_rfl) (by kernel_rfl) (by kernel_rfl) (by rfl) rfl (fun w hw => by go_simp) ?_
  simp only [Act.put, List.setIfInBounds_toArray, List.set_cons_zero, List.set_cons_succ]
  refine reg_take (v := .bool true) 10 (some 6) rfl rfl (by kernel_rfl) (by kernel_rfl) (by kernel_rfl) (by rfl) rfl (fun w hw => by go_simp) ?_
  simp only [Act.put, List.setIfInBounds_toArray, List.set_cons_zero, List.set_cons_succ]
  refine reg_end (by kernel_rfl) ?_
  go_wp2
  go_ret
  exact ⟨by rw [HN.out]; rfl, HK.out⟩
/-- A new number. -/
theorem Cx.more {w w2 : World} {p bn bs : Nat} {cs : List Thing} {t : Thing} (h : Cx w p bn bs cs (fun _ => True)) (ht : t ∉ cs) (hd : t.kind = 83 → t.d.length ≤ 1048576) (hm : MapB w2 bn (nps cs ++ [(cv t, .int .i64 ((cs.length : Int) + 1))])) (k : Kp (fun i => i = bn) w w2) : Cx w2 p bn bs (cs ++ [t]) (fun u => u ∈ cs) := by
  refine ⟨h.b.keep k h.ne.1, by rw [nps_snoc]; exact hm, ?_, h.ne, ?_, ?_⟩
  · obtain ⟨ps, h1, h2⟩ := h.s
    refine ⟨ps, h1.keep k (fun e => h.ne.2.2 e.symm), ⟨fun q hq => ?_, fun i x hi hk hx => ?_⟩⟩
    · obtain ⟨i, x, hi, hk, e⟩ := h2.all q hq
      exact ⟨i, x, by rw [List.getElem?_append_left (List.getElem?_eq_some_iff.1 hi).1]; exact hi, hk, e⟩
    · rw [List.getElem?_append] at hi
      split at hi
      · exact h2.has i x hi hk trivial
      · rename_i hlt
        have hx1 : x = t := by
          have : i - cs.length = 0 := by
            rcases Nat.eq_zero_or_pos (i - cs.length) with h0 | h0
            · exact h0
            · rw [List.getElem?_eq_none (by simp; omega)] at hi; cases hi
          rw [this] at hi
          exact (Option.some.inj (by simpa using hi : some t = some x)).symm
        exact absurd (hx1 ▸ hx) ht
  · rw [List.nodup_append]
    exact ⟨h.nd, by simp, fun a ha b hb e => ht (by rw [← List.mem_singleton.1 hb, ← e]; exact ha)⟩
  · intro u hu hk
    rcases List.mem_append.1 hu with hu | hu
    · exact h.sm u hu hk
    · obtain rfl := List.mem_singleton.1 hu; exact hd hk
set_option maxHeartbeats 2000000 in
set_option maxRecDepth 100000 in
theorem number_new (p bn bs : Nat) (cs : List Thing) (t : Thing) (w0 : World) (hw : Cx w0 p bn bs cs (fun _ => True)) (hl : cs.length ≤ 100000) (ht : t ∉ cs) (hd : t.kind = 83 → t.d.length ≤ 1048576) :
    Calls Try.prog 22 #[.pointer (some ⟨p, 0, none⟩), .agg (tc t).toArray] w0 fun e w' => e = .returned (.int .i64 ((cs.length + 1 : Nat) : Int)) ∧ Cx w' p bn bs (cs ++ [t]) (fun u => u ∈ cs) ∧ Kp (fun i => i = bn) w0 w' := by
  have HW := Lib.hid hw
  have HK := Lib.hid (((Kp.refl nob w0).alloc (.cells (tc t).toArray 61)).drew)
  have HT := Lib.hid (show Blk ((w0.alloc (.cells (tc t).toArray 61)).drew) w0.heap.size 61 (tc t) from Blk.new w0 _ _)
  have hz : (zeroValue 3).run Try.prog ((w0.alloc (.cells (tc t).toArray 61)).drew) = .ok (.int .i64 0) ((w0.alloc (.cells (tc t).toArray 61)).drew) := by kernel_rfl
  have HLK := Lib.hid ((hw.keep0 HK.out).n.look_not thing_keys (nps_keys cs) map_under hz t (nps_not cs t ht))
  have hlen := (hw.keep0 HK.out).n.len map_under 3
  rw [nps_length] at hlen
  obtain ⟨w9, hs1, hs2, hs3, hs4⟩ := (hw.keep0 (HK.out.drew)).n.store_new thing_keys (nps_keys cs) map_under t (.int .i64 ((cs.length : Int) + 1)) (nps_not cs t ht)
  have hc : ((w0.alloc (.cells (tc t).toArray 61)).drew).cell? ⟨p, 0, none⟩ = some (.map (some bn)) := by rw [(hw.keep0 HK.out).b.cell]; rfl
  have hadd : IntKind.i64.wrap ((cs.length : Int) + 1) = (cs.length : Int) + 1 := by rw [IntKind.wrap_i64]; omega
  have HM := Lib.hid ((hw.keep0 HK.out.drew).more ht hd hs2 hs3)
  have HS := Lib.hid hs1
  have HKK := Lib.hid ((HK.out.drew.nob (fun i => i = bn)).trans hs3 (fun i e => .inl e))
  have H9 : Hid (w9.cell? ⟨p, 0, none⟩ = some (.map (some bn)) ∧ Blk w9 w0.heap.size 61 (tc t)) := Lib.hid ⟨by rw [HM.out.b.cell]; rfl, (HT.out.keep (Kp.refl nob _).drew (fun e => e)).keep hs3 (fun e => by have := hw.lt bn (.inr (.inl rfl)); omega)⟩
  have HT2 := Lib.hid (show Blk ((w0.alloc (.cells (tc t).toArray 61)).drew.drew) w0.heap.size 61 (tc t) from Blk.new w0 _ _)
  go_enter Try.func22, Try.ntmps22
  clear hw ht hd hs1 hs2 hs3 hs4 hz
  go_wp2
  generalize hw1 : (w0.alloc (.cells (tc t).toArray 61)).drew = w1 at *
  refine reg_begin (fun w2 => w2 = w1) (by kernel_rfl) hw1 (fun _ => ?_)
  rw [hw1]
  refine reg_take (v := .pointer (some ⟨p, 0, none⟩)) 0 (some 8) rfl rfl (by kernel_rfl) (by kernel_rfl) (by kernel_rfl) (by rfl) rfl (fun w hw => by go_simp) ?_
  simp only [Act.put, List.setIfInBounds_toArray, List.set_cons_zero, List.set_cons_succ]
  refine reg_take (v := .pointer (some ⟨p, 0, none⟩)) 1 (some 9) rfl rfl (by kernel_rfl) (by kernel_rfl) (by kernel_rfl) (by rfl) rfl (fun w hw => by go_simp) ?_
  simp only [Act.put, List.setIfInBounds_toArray, List.set_cons_zero, List.set_cons_succ]
  refine reg_take (v := .pointer (some ⟨p, 0, none⟩)) 2 (some 10) rfl rfl (by kernel_rfl) (by kernel_rfl) (by kernel_rfl) (by rfl) rfl (fun w hw => by go_simp) ?_
  simp only [Act.put, List.setIfInBounds_toArray, List.set_cons_zero, List.set_cons_succ]
  refine reg_take (v := .map (some bn)) 3 (some 11) rfl rfl (by kernel_rfl) (by kernel_rfl) (by kernel_rfl) (by rfl) rfl (fun w hw => by rw [hw]; go_simp) ?_
  simp only [Act.put, List.setIfInBounds_toArray, List.set_cons_zero, List.set_cons_succ]
  refine reg_load 4 (some 12) 61 (.tmp 3) rfl rfl rfl (by kernel_rfl) (by kernel_rfl) (by kernel_rfl) (by rfl) rfl (w0.heap.size) 0 rfl (tc t) _ (fun w hw => by rw [hw]; exact HT.out.range) cthing_under rfl (by kernel_rfl) ?_
  simp only [Act.put, List.setIfInBounds_toArray, List.set_cons_zero, List.set_cons_succ]
  refine reg_take (v := .tuple #[.int .i64 0, .bool false]) 5 (some 13) rfl rfl (by kernel_rfl) (by kernel_rfl) (by kernel_rfl) (by rfl) rfl (fun w hw => by rw [hw]; exact exec_look (.tmp 11) (.tmp 12) 53 true rfl _ _ _ rfl rfl HLK.out) ?_
  simp only [Act.put, List.setIfInBounds_toArray, List.set_cons_zero, List.set_cons_succ]
  refine reg_take (v := .tuple #[.int .i64 0, .bool false]) 6 (some 7) rfl rfl (by kernel_rfl) (by kernel_rfl) (by kernel_rfl) (by rfl) rfl (fun w hw => by go_simp) ?_
  simp only [Act.put, List.setIfInBounds_toArray, List.set_cons_zero, List.set_cons_succ]
  refine reg_take (v := .int .i64 0) 7 (some 14) rfl rfl (by kernel_rfl) (by kernel_rfl) (by kernel_rfl) (by rfl) rfl (fun w hw => by go_simp) ?_
  simp only [Act.put, List.setIfInBounds_toArray, List.set_cons_zero, List.set_cons_succ]
  refine reg_take (v := .bool false) 8 (some 15) rfl rfl (by kernel_rfl) (by kernel_rfl) (by kernel_rfl) (by rfl) rfl (fun w hw => by go_simp) ?_
  simp only [Act.put, List.setIfInBounds_toArray, List.set_cons_zero, List.set_cons_succ]
  refine reg_take (v := .int .i64 0) 9 (some 5) rfl rfl (by kernel_rfl) (by kernel_rfl) (by kernel_rfl) (by rfl) rfl (fun w hw => by go_simp) ?_
  simp only [Act.put, List.setIfInBounds_toArray, List.set_cons_zero, List.set_cons_succ]
  refine reg_take (v := .bool false) 10 (some 6) rfl rfl (by kernel_rfl) (by kernel_rfl) (by kernel_rfl) (by rfl) rfl (fun w hw => by go_simp) ?_
  simp only [Act.put, List.setIfInBounds_toArray, List.set_cons_zero, List.set_cons_succ]
  refine reg_end (by kernel_rfl) ?_
  go_wp2
  have HSS : Hid ((fun w2 : World => w2.cell? ⟨p, 0, none⟩ = some (.map (some bn)) ∧ Blk w2 w0.heap.size 61 (tc t)) w1.drew) := Lib.hid ⟨hc, HT2.out⟩
  refine reg_begin (fun w2 : World => w2.cell? ⟨p, 0, none⟩ = some (.map (some bn)) ∧ Blk w2 w0.heap.size 61 (tc t)) (by kernel_rfl) HSS.out (fun _ => ?_)
  refine reg_take (v := .pointer (some ⟨p, 0, none⟩)) 0 (some 24) rfl rfl (by kernel_rfl) (by kernel_rfl) (by kernel_rfl) (by rfl) HSS.out (fun w hw => by go_simp) ?_
  simp only [Act.put, List.setIfInBounds_toArray, List.set_cons_zero, List.set_cons_succ]
  refine reg_take (v := .pointer (some ⟨p, 0, none⟩)) 1 (some 25) rfl rfl (by kernel_rfl) (by kernel_rfl) (by kernel_rfl) (by rfl) HSS.out (fun w hw => by go_simp) ?_
  simp only [Act.put, List.setIfInBounds_toArray, List.set_cons_zero, List.set_cons_succ]
  refine reg_take (v := .pointer (some ⟨p, 0, none⟩)) 2 (some 26) rfl rfl (by kernel_rfl) (by kernel_rfl) (by kernel_rfl) (by rfl) HSS.out (fun w hw => by go_simp) ?_
  simp only [Act.put, List.setIfInBounds_toArray, List.set_cons_zero, List.set_cons_succ]
  refine reg_take (v := .map (some bn)) 3 (some 27) rfl rfl (by kernel_rfl) (by kernel_rfl) (by kernel_rfl) (by rfl) HSS.out (fun w hw => by have hw0 := hw.1; go_simp) ?_
  simp only [Act.put, List.setIfInBounds_toArray, List.set_cons_zero, List.set_cons_succ]
  refine reg_load 4 (some 28) 61 (.tmp 3) rfl rfl rfl (by kernel_rfl) (by kernel_rfl) (by kernel_rfl) (by rfl) HSS.out (w0.heap.size) 0 rfl (tc t) _ (fun w hw => hw.2.range) cthing_under rfl (by kernel_rfl) ?_
  simp only [Act.put, List.setIfInBounds_toArray, List.set_cons_zero, List.set_cons_succ]
  refine reg_take (v := .int .i64 ((cs.length : Int) + 1)) 5 (some 29) rfl rfl (by kernel_rfl) (by kernel_rfl) (by kernel_rfl) (by rfl) HSS.out (fun w hw => by go_simp) ?_
  simp only [Act.put, List.setIfInBounds_toArray, List.set_cons_zero, List.set_cons_succ]
  refine reg_update 6 none (.tmp 27) (.tmp 28) (.tmp 29) 53 rfl rfl rfl (by kernel_rfl) (by rfl) _ _ _ rfl rfl rfl HS.out H9.out (fun _ => ?_)
  simp only [Act.put, List.setIfInBounds_toArray, List.set_cons_zero, List.set_cons_succ]
  refine reg_end (by kernel_rfl) ?_
  go_wp2
  go_ret
  exact ⟨rfl, HM.out, HKK.out⟩
/-- A THING's NUMBER: the one that it has, or the next one. -/
theorem number_any (p bn bs : Nat) (cs : List Thing) (t : Thing) (w0 : World) (hw : Cx w0 p bn bs cs (fun _ => True)) (hl : cs.length ≤ 100000) (hd : t.kind = 83 → t.d.length ≤ 1048576) :
    Calls Try.prog 22 #[.pointer (some ⟨p, 0, none⟩), .agg (tc t).toArray] w0 fun e w' => e = .returned (.int .i64 (num (mk cs t) t : Nat)) ∧ Cx w' p bn bs (mk cs t) (fun u => u ∈ cs) ∧ Kp (fun i => i = bn) w0 w' := by
  by_cases ht : t ∈ cs
  · rw [mk_old cs t ht]
    refine (number_old p bn bs cs t w0 hw ht).mono ?_
    rintro e w' ⟨rfl, k⟩
    exact ⟨rfl, (hw.keep0 k).imp (fun _ _ _ _ => trivial), k.nob _⟩
  · rw [num_new cs t ht, mk_new cs t ht]
    exact number_new p bn bs cs t w0 hw hl ht hd
end Go.Proofs.Ytakhanganifpnaa.Ideal
