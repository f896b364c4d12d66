/- The code's ideal world: a thing's number. · Appends as steps of a region that draws its order: a row, and 'append(s, make([]byte, k)...)', onto an owned row of bytes. No program is named here. · Append of noughts ('append(s, make([]byte, k)...)') as a step of a walk; an owned row cut to nothing; slices of slices of bytes. No program is named here. -/
import Derived.Test.YtmmpmncioifeoaaZG10
import Derived.Test.YtmmpmncioifeoaaZG06
import Derived.Lib.AppendZerosOnto
import Derived.Orders
namespace Go.Proofs.Ytmmpmncioifeoaa.Ideal
set_option linter.unusedVariables false
set_option linter.unusedSimpArgs false
open Go Go.RowKit Kit

theorem map_under : Try.prog.underlying 46 = some (.map 101 3) := by kernel_rfl
theorem smap_under : Try.prog.underlying 47 = some (.map 3 101) := by kernel_rfl
set_option maxHeartbeats 2000000 in
set_option maxRecDepth 100000 in
theorem number_old (p bn bs : Nat) (cs : List Thing) (t : Thing) (w0 : World) (hw : Cx w0 p bn bs cs (fun _ => True)) (ht : t ∈ cs) :
    Calls Try.prog 59 #[.pointer (some ⟨p, 0, none⟩), .agg (tc t).toArray] w0 fun e w' => e = .returned (.int .i64 (num cs t : Nat)) ∧ Kp nob w0 w' := by
  obtain ⟨i, hi, he⟩ := List.mem_iff_getElem.1 ht
  have hit : cs[i]? = some t := by rw [List.getElem?_eq_getElem hi, he]
  have HN := Lib.hid (num_of_at cs t i hw.nd hit)
  have HW := Lib.hid hw
  have HK := Lib.hid (((Kp.refl nob w0).alloc (.cells (tc t).toArray 101)).drew)
  have HT := Lib.hid (show Blk ((w0.alloc (.cells (tc t).toArray 101)).drew) w0.heap.size 101 (tc t) from Blk.new w0 _ _)
  have HLK := Lib.hid ((hw.keep0 HK.out).n.look_has thing_keys (nps_keys cs) map_under t _ (nps_mem cs i t hit) (fun u hu => nps_one cs i t hit hw.nd u hu))
  have hc : ((w0.alloc (.cells (tc t).toArray 101)).drew).cell? ⟨p, 0, none⟩ = some (.map (some bn)) := by rw [(hw.keep0 HK.out).b.cell]; rfl
  go_enter Try.func59, Try.ntmps59
  clear hw ht hi he hit
  go_wp2
  generalize hw1 : (w0.alloc (.cells (tc t).toArray 101)).drew = w1 at *
  refine reg_begin (fun w2 => w2 = w1) (by kernel_rfl) hw1 (fun _ => ?_)
  rw [hw1]
  refine reg_take (v := .pointer (some ⟨p, 0, none⟩)) 0 (some 8) rfl rfl (by kernel_rfl) (by kernel_rfl) (by kernel_rfl) (by rfl) rfl (fun w hw => by go_simp) ?_
  simp only [Act.put, List.setIfInBounds_toArray, List.set_cons_zero, List.set_cons_succ]
  refine reg_take (v := .pointer (some ⟨p, 0, none⟩)) 1 (some 9) rfl rfl (by kernel_rfl) (by kernel_rfl) (by kernel_rfl) (by rfl) rfl (fun w hw => by go_simp) ?_
  simp only [Act.put, List.setIfInBounds_toArray, List.set_cons_zero, List.set_cons_succ]
  refine reg_take (v := .pointer (some ⟨p, 0, none⟩)) 2 (some 10) rfl rfl (by kernel_rfl) (by kernel_rfl) (by kernel_rfl) (by rfl) rfl (fun w hw => by go_simp) ?_
  simp only [Act.put, List.setIfInBounds_toArray, List.set_cons_zero, List.set_cons_succ]
  refine reg_take (v := .map (some bn)) 3 (some 11) rfl rfl (by kernel_rfl) (by kernel_rfl) (by kernel_rfl) (by rfl) rfl (fun w hw => by rw [hw]; go_simp) ?_
  simp only [Act.put, List.setIfInBounds_toArray, List.set_cons_zero, List.set_cons_succ]
  refine reg_load 4 (some 12) 101 (.tmp 3) rfl rfl rfl (by kernel_rfl) (by kernel_rfl) (by kernel_rfl) (by rfl) rfl (w0.heap.size) 0 rfl (tc t) _ (fun w hw => by rw [hw]; exact HT.out.range) cthing_under rfl (by kernel_rfl) ?_
  simp only [Act.put, List.setIfInBounds_toArray, List.set_cons_zero, List.set_cons_succ]
  refine reg_take (v := .tuple #[.int .i64 ((i : Int) + 1), .bool true]) 5 (some 13) rfl rfl (by kernel_rfl) (by kernel_rfl) (by kernel_rfl) (by rfl) rfl (fun w hw => by rw [hw]; exact exec_look (.tmp 11) (.tmp 12) 46 true rfl _ _ _ rfl rfl HLK.out) ?_
  simp only [Act.put, List.setIfInBounds_toArray, List.set_cons_zero, List.set_cons_succ]
  refine reg_take (v := .tuple #[.int .i64 ((i : Int) + 1), .bool true]) 6 (some 7) rfl rfl (by kernel_rfl) (by kernel_rfl) (by kernel_rfl) (by rfl) rfl (fun w hw => by go_simp) ?_
  simp only [Act.put, List.setIfInBounds_toArray, List.set_cons_zero, List.set_cons_succ]
  refine reg_take (v := .int .i64 ((i : Int) + 1)) 7 (some 14) rfl rfl (by kernel_rfl) (by kernel_rfl) (by kernel_rfl) (by rfl) rfl (fun w hw => by go_simp) ?_
  simp only [Act.put, List.setIfInBounds_toArray, List.set_cons_zero, List.set_cons_succ]
  refine reg_take (v := .bool true) 8 (some 15) rfl rfl (by kernel_rfl) (by kernel_rfl) (by kernel_rfl) (by rfl) rfl (fun w hw => by go_simp) ?_
  simp only [Act.put, List.setIfInBounds_toArray, List.set_cons_zero, List.set_cons_succ]
  refine reg_take (v := .int .i64 ((i : Int) + 1)) 9 (some 5) rfl rfl (by kernel_rfl) (by kernel_rfl) (by kernel_rfl) (by rfl) rfl (fun w hw => by go_simp) ?_
  simp only [Act.put, List.setIfInBounds_toArray, List.set_cons_zero, List.set_cons_succ]
  refine reg_take (v := .bool true) 10 (some 6) rfl rfl (by kernel_rfl) (by kernel_rfl) (by kernel_rfl) (by rfl) rfl (fun w hw => by go_simp) ?_
  simp only [Act.put, List.setIfInBounds_toArray, List.set_cons_zero, List.set_cons_succ]
  refine reg_end (by kernel_rfl) ?_
  go_wp2
  go_ret
  exact ⟨by rw [HN.out]; rfl, HK.out⟩
/-- A new number. -/
theorem Cx.more {w w2 : World} {p bn bs : Nat} {cs : List Thing} {t : Thing} (h : Cx w p bn bs cs (fun _ => True)) (ht : t ∉ cs) (hd : t.kind = 83 → t.d.length ≤ 1048576) (hm : MapB w2 bn (nps cs ++ [(cv t, .int .i64 ((cs.length : Int) + 1))])) (k : Kp (fun i => i = bn) w w2) : Cx w2 p bn bs (cs ++ [t]) (fun u => u ∈ cs) := by
  refine ⟨h.b.keep k h.ne.1, by rw [nps_snoc]; exact hm, ?_, h.ne, ?_, ?_⟩
  · obtain ⟨ps, h1, h2⟩ := h.s
    refine ⟨ps, h1.keep k (fun e => h.ne.2.2 e.symm), ⟨fun q hq => ?_, fun i x hi hk hx => ?_⟩⟩
    · obtain ⟨i, x, hi, hk, e⟩ := h2.all q hq
      exact ⟨i, x, by rw [List.getElem?_append_left (List.getElem?_eq_some_iff.1 hi).1]; exact hi, hk, e⟩
    · rw [List.getElem?_append] at hi
      split at hi
      · exact h2.has i x hi hk trivial
      · rename_i hlt
        have hx1 : x = t := by
          have : i - cs.length = 0 := by
            rcases Nat.eq_zero_or_pos (i - cs.length) with h0 | h0
            · exact h0
            · rw [List.getElem?_eq_none (by simp; omega)] at hi; cases hi
          rw [this] at hi
          exact (Option.some.inj (by simpa using hi : some t = some x)).symm
        exact absurd (hx1 ▸ hx) ht
  · rw [List.nodup_append]
    exact ⟨h.nd, by simp, fun a ha b hb e => ht (by rw [← List.mem_singleton.1 hb, ← e]; exact ha)⟩
  · intro u hu hk
    rcases List.mem_append.1 hu with hu | hu
    · exact h.sm u hu hk
    · obtain rfl := List.mem_singleton.1 hu; exact hd hk
set_option maxHeartbeats 2000000 in
set_option maxRecDepth 100000 in
theorem number_new (p bn bs : Nat) (cs : List Thing) (t : Thing) (w0 : World) (hw : Cx w0 p bn bs cs (fun _ => True)) (hl : cs.length ≤ 100000) (ht : t ∉ cs) (hd : t.kind = 83 → t.d.length ≤ 1048576) :
    Calls Try.prog 59 #[.pointer (some ⟨p, 0, none⟩), .agg (tc t).toArray] w0 fun e w' => e = .returned (.int .i64 ((cs.length + 1 : Nat) : Int)) ∧ Cx w' p bn bs (cs ++ [t]) (fun u => u ∈ cs) ∧ Kp (fun i => i = bn) w0 w' := by
  have HW := Lib.hid hw
  have HK := Lib.hid (((Kp.refl nob w0).alloc (.cells (tc t).toArray 101)).drew)
  have HT := Lib.hid (show Blk ((w0.alloc (.cells (tc t).toArray 101)).drew) w0.heap.size 101 (tc t) from Blk.new w0 _ _)
  have hz : (zeroValue 3).run Try.prog ((w0.alloc (.cells (tc t).toArray 101)).drew) = .ok (.int .i64 0) ((w0.alloc (.cells (tc t).toArray 101)).drew) := by kernel_rfl
  have HLK := Lib.hid ((hw.keep0 HK.out).n.look_not thing_keys (nps_keys cs) map_under hz t (nps_not cs t ht))
  have hlen := (hw.keep0 HK.out).n.len map_under 3
  rw [nps_length] at hlen
  obtain ⟨w9, hs1, hs2, hs3, hs4⟩ := (hw.keep0 (HK.out.drew)).n.store_new thing_keys (nps_keys cs) map_under t (.int .i64 ((cs.length : Int) + 1)) (nps_not cs t ht)
  have hc : ((w0.alloc (.cells (tc t).toArray 101)).drew).cell? ⟨p, 0, none⟩ = some (.map (some bn)) := by rw [(hw.keep0 HK.out).b.cell]; rfl
  have hadd : IntKind.i64.wrap ((cs.length : Int) + 1) = (cs.length : Int) + 1 := by rw [IntKind.wrap_i64]; omega
  have HM := Lib.hid ((hw.keep0 HK.out.drew).more ht hd hs2 hs3)
  have HS := Lib.hid hs1
  have HKK := Lib.hid ((HK.out.drew.nob (fun i => i = bn)).trans hs3 (fun i e => .inl e))
  have H9 : Hid (w9.cell? ⟨p, 0, none⟩ = some (.map (some bn)) ∧ Blk w9 w0.heap.size 101 (tc t)) := Lib.hid ⟨by rw [HM.out.b.cell]; rfl, (HT.out.keep (Kp.refl nob _).drew (fun e => e)).keep hs3 (fun e => by have := hw.lt bn (.inr (.inl rfl)); omega)⟩
  have HT2 := Lib.hid (show Blk ((w0.alloc (.cells (tc t).toArray 101)).drew.drew) w0.heap.size 101 (tc t) from Blk.new w0 _ _)
  go_enter Try.func59, Try.ntmps59
  clear hw ht hd hs1 hs2 hs3 hs4 hz
  go_wp2
  generalize hw1 : (w0.alloc (.cells (tc t).toArray 101)).drew = w1 at *
  refine reg_begin (fun w2 => w2 = w1) (by kernel_rfl) hw1 (fun _ => ?_)
  rw [hw1]
  refine reg_take (v := .pointer (some ⟨p, 0, none⟩)) 0 (some 8) rfl rfl (by kernel_rfl) (by kernel_rfl) (by kernel_rfl) (by rfl) rfl (fun w hw => by go_simp) ?_
  simp only [Act.put, List.setIfInBounds_toArray, List.set_cons_zero, List.set_cons_succ]
  refine reg_take (v := .pointer (some ⟨p, 0, none⟩)) 1 (some 9) rfl rfl (by kernel_rfl) (by kernel_rfl) (by kernel_rfl) (by rfl) rfl (fun w hw => by go_simp) ?_
  simp only [Act.put, List.setIfInBounds_toArray, List.set_cons_zero, List.set_cons_succ]
  refine reg_take (v := .pointer (some ⟨p, 0, none⟩)) 2 (some 10) rfl rfl (by kernel_rfl) (by kernel_rfl) (by kernel_rfl) (by rfl) rfl (fun w hw => by go_simp) ?_
  simp only [Act.put, List.setIfInBounds_toArray, List.set_cons_zero, List.set_cons_succ]
  refine reg_take (v := .map (some bn)) 3 (some 11) rfl rfl (by kernel_rfl) (by kernel_rfl) (by kernel_rfl) (by rfl) rfl (fun w hw => by rw [hw]; go_simp) ?_
  simp only [Act.put, List.setIfInBounds_toArray, List.set_cons_zero, List.set_cons_succ]
  refine reg_load 4 (some 12) 101 (.tmp 3) rfl rfl rfl (by kernel_rfl) (by kernel_rfl) (by kernel_rfl) (by rfl) rfl (w0.heap.size) 0 rfl (tc t) _ (fun w hw => by rw [hw]; exact HT.out.range) cthing_under rfl (by kernel_rfl) ?_
  simp only [Act.put, List.setIfInBounds_toArray, List.set_cons_zero, List.set_cons_succ]
  refine reg_take (v := .tuple #[.int .i64 0, .bool false]) 5 (some 13) rfl rfl (by kernel_rfl) (by kernel_rfl) (by kernel_rfl) (by rfl) rfl (fun w hw => by rw [hw]; exact exec_look (.tmp 11) (.tmp 12) 46 true rfl _ _ _ rfl rfl HLK.out) ?_
  simp only [Act.put, List.setIfInBounds_toArray, List.set_cons_zero, List.set_cons_succ]
  refine reg_take (v := .tuple #[.int .i64 0, .bool false]) 6 (some 7) rfl rfl (by kernel_rfl) (by kernel_rfl) (by kernel_rfl) (by rfl) rfl (fun w hw => by go_simp) ?_
  simp only [Act.put, List.setIfInBounds_toArray, List.set_cons_zero, List.set_cons_succ]
  refine reg_take (v := .int .i64 0) 7 (some 14) rfl rfl (by kernel_rfl) (by kernel_rfl) (by kernel_rfl) (by rfl) rfl (fun w hw => by go_simp) ?_
  simp only [Act.put, List.setIfInBounds_toArray, List.set_cons_zero, List.set_cons_succ]
  refine reg_take (v := .bool false) 8 (some 15) rfl rfl (by kernel_rfl) (by kernel_rfl) (by kernel_rfl) (by rfl) rfl (fun w hw => by go_simp) ?_
  simp only [Act.put, List.setIfInBounds_toArray, List.set_cons_zero, List.set_cons_succ]
  refine reg_take (v := .int .i64 0) 9 (some 5) rfl rfl (by kernel_rfl) (by kernel_rfl) (by kernel_rfl) (by rfl) rfl (fun w hw => by go_simp) ?_
  simp only [Act.put, List.setIfInBounds_toArray, List.set_cons_zero, List.set_cons_succ]
  refine reg_take (v := .bool false) 10 (some 6) rfl rfl (by kernel_rfl) (by kernel_rfl) (by kernel_rfl) (by rfl) rfl (fun w hw => by go_simp) ?_
  simp only [Act.put, List.setIfInBounds_toArray, List.set_cons_zero, List.set_cons_succ]
  refine reg_end (by kernel_rfl) ?_
  go_wp2
  have HSS : Hid ((fun w2 : World => w2.cell? ⟨p, 0, none⟩ = some (.map (some bn)) ∧ Blk w2 w0.heap.size 101 (tc t)) w1.drew) := Lib.hid ⟨hc, HT2.out⟩
  refine reg_begin (fun w2 : World => w2.cell? ⟨p, 0, none⟩ = some (.map (some bn)) ∧ Blk w2 w0.heap.size 101 (tc t)) (by kernel_rfl) HSS.out (fun _ => ?_)
  refine reg_take (v := .pointer (some ⟨p, 0, none⟩)) 0 (some 24) rfl rfl (by kernel_rfl) (by kernel_rfl) (by kernel_rfl) (by rfl) HSS.out (fun w hw => by go_simp) ?_
  simp only [Act.put, List.setIfInBounds_toArray, List.set_cons_zero, List.set_cons_succ]
  refine reg_take (v := .pointer (some ⟨p, 0, none⟩)) 1 (some 25) rfl rfl (by kernel_rfl) (by kernel_rfl) (by kernel_rfl) (by rfl) HSS.out (fun w hw => by go_simp) ?_
  simp only [Act.put, List.setIfInBounds_toArray, List.set_cons_zero, List.set_cons_succ]
  refine reg_take (v := .pointer (some ⟨p, 0, none⟩)) 2 (some 26) rfl rfl (by kernel_rfl) (by kernel_rfl) (by kernel_rfl) (by rfl) HSS.out (fun w hw => by go_simp) ?_
  simp only [Act.put, List.setIfInBounds_toArray, List.set_cons_zero, List.set_cons_succ]
  refine reg_take (v := .map (some bn)) 3 (some 27) rfl rfl (by kernel_rfl) (by kernel_rfl) (by kernel_rfl) (by rfl) HSS.out (fun w hw => by have hw0 := hw.1; go_simp) ?_
  simp only [Act.put, List.setIfInBounds_toArray, List.set_cons_zero, List.set_cons_succ]
  refine reg_load 4 (some 28) 101 (.tmp 3) rfl rfl rfl (by kernel_rfl) (by kernel_rfl) (by kernel_rfl) (by rfl) HSS.out (w0.heap.size) 0 rfl (tc t) _ (fun w hw => hw.2.range) cthing_under rfl (by kernel_rfl) ?_
  simp only [Act.put, List.setIfInBounds_toArray, List.set_cons_zero, List.set_cons_succ]
  refine reg_take (v := .int .i64 ((cs.length : Int) + 1)) 5 (some 29) rfl rfl (by kernel_rfl) (by kernel_rfl) (by kernel_rfl) (by rfl) HSS.out (fun w hw => by go_simp) ?_
  simp only [Act.put, List.setIfInBounds_toArray, List.set_cons_zero, List.set_cons_succ]
  refine reg_update 6 none (.tmp 27) (.tmp 28) (.tmp 29) 46 rfl rfl rfl (by kernel_rfl) (by rfl) _ _ _ rfl rfl rfl HS.out H9.out (fun _ => ?_)
  simp only [Act.put, List.setIfInBounds_toArray, List.set_cons_zero, List.set_cons_succ]
  refine reg_end (by kernel_rfl) ?_
  go_wp2
  go_ret
  exact ⟨rfl, HM.out, HKK.out⟩
/-- A THING's NUMBER: the one that it has, or the next one. -/
theorem number_any (p bn bs : Nat) (cs : List Thing) (t : Thing) (w0 : World) (hw : Cx w0 p bn bs cs (fun _ => True)) (hl : cs.length ≤ 100000) (hd : t.kind = 83 → t.d.length ≤ 1048576) :
    Calls Try.prog 59 #[.pointer (some ⟨p, 0, none⟩), .agg (tc t).toArray] w0 fun e w' => e = .returned (.int .i64 (num (mk cs t) t : Nat)) ∧ Cx w' p bn bs (mk cs t) (fun u => u ∈ cs) ∧ Kp (fun i => i = bn) w0 w' := by
  by_cases ht : t ∈ cs
  · rw [mk_old cs t ht]
    refine (number_old p bn bs cs t w0 hw ht).mono ?_
    rintro e w' ⟨rfl, k⟩
    exact ⟨rfl, (hw.keep0 k).imp (fun _ _ _ _ => trivial), k.nob _⟩
  · rw [num_new cs t ht, mk_new cs t ht]
    exact number_new p bn bs cs t w0 hw hl ht hd
end Go.Proofs.Ytmmpmncioifeoaa.Ideal
namespace Go.Proofs.Ytmmpmncioifeoaa.Kit
set_option linter.unusedVariables false
set_option linter.unusedSimpArgs false
open Go Go.RowKit

/-- AN OPERATION WHOSE GUARD SAYS NO, taken first; its slot is handed in. -/
theorem wpAny_skip {P : Program} {md : Region.Mode} {ops : Array Oper} {Q : Exit → Act → World → Prop} {oi : Oper} {fuel : Nat} {listed : Array Bool} {a : Act} {w : World} (i : Nat) (d : Option Tmp) (hi : ops[i]? = some oi) (hd : oi.dst = d)
    (hs : Region.noSelect ops = true) (hf : Region.free md ops listed i = true) (hr : (Region.ready md ops listed).contains i = true)
    (hQ : ∀ c a w, Q (.panic c) (a.put d undef) w → Q (.panic c) a w) (hw : Region.wanted oi (yielded ops a.tmps) = false)
    (h : wpAny P md ops Q fuel (listed.setIfInBounds i true) (a.put d undef) w) : wpAny P md ops Q (fuel + 1) listed a w := by
  subst hd
  exact wpAny_take hi hs hf hr hQ (.inr ⟨hw, rfl⟩) h
/-- An operation that yields in whatever world, taken first; its slot is handed in. -/
theorem wpAny_takeD {P : Program} {md : Region.Mode} {ops : Array Oper} {Q : Exit → Act → World → Prop} {oi : Oper} {v : Value} {fuel : Nat} {listed : Array Bool} {a : Act} {w : World} (i : Nat) (d : Option Tmp) (hi : ops[i]? = some oi) (hd : oi.dst = d)
    (hs : Region.noSelect ops = true) (hf : Region.free md ops listed i = true) (hr : (Region.ready md ops listed).contains i = true)
    (hQ : ∀ c a w, Q (.panic c) (a.put d v) w → Q (.panic c) a w) (hw : Region.wanted oi (yielded ops a.tmps) = true) (hy : ∀ w, (execOp a.eval oi).run P w = .ok (.value v) w)
    (h : wpAny P md ops Q fuel (listed.setIfInBounds i true) (a.put d v) w) : wpAny P md ops Q (fuel + 1) listed a w := by
  subst hd
  exact wpAny_take hi hs hf hr hQ (.inl ⟨hw, hy⟩) h
theorem Kp.alloc_drew {F : Nat → Prop} {a b : World} (h : Kp F a b.drew) (o : Obj) : Kp F a (b.alloc o).drew := h.alloc o
theorem range_alloc {w : World} {b o : Nat} {cs : List Value} (h : w.rangeAt b o cs) (x : Obj) : (w.alloc x).rangeAt b o cs := range_keep h ((Kp.refl nob w).alloc x) (fun e => e)
theorem range_alloc_drew {w : World} {b o : Nat} {cs : List Value} (h : w.drew.rangeAt b o cs) (x : Obj) : (w.alloc x).drew.rangeAt b o cs := range_alloc h x

theorem run_appR {P : Program} (w : World) (t ty e : TypeId) (i : TypeInfo) (z : Value) (bytes : Nat) (ht : P.underlying t = some (.slice e)) (hi : P.info? e = some i) (hz : i.zero = some z)
    (hsize : i.size = 1) (hby : i.bytes = bytes) (hzs : z.cells.size = 1)
    (A : Option Addr) (n c : Nat) (xs : List Value) (hown : Own e w A n c xs)
    (B : Option Addr) (m d : Nat) (ys : List Value) (hB : B = none → d = 0) (hm : ys.length = m) (hrow : Row w B ys) (h1 : ∀ u ∈ ys, u.oneCell' = true)
    (hbytes : (n + m) * bytes ≤ 140737488355328) (h63 : n + m ≤ 140737488355328) :
    ∃ A' c' w', (Builtin.append_ #[t, t] ty #[.slice A n c, .slice B m d]).run P w = .ok (.slice A' (n + m) c') w' ∧ Own e w' A' (n + m) c' (xs ++ ys) ∧ w.grownBy w' (ab A) ∧ (ab A' = ab A ∨ ab A' = some w.heap.size) := by
  have hmx : n + m ≤ maxLen := by unfold maxLen; omega
  cases B with
  | none =>
    have hd := hB rfl
    have hy : ys = [] := by
      rcases hrow with rfl | ⟨b, o, h, _⟩
      · rfl
      · cases h
    subst hy
    obtain rfl : m = 0 := by simpa using hm.symm
    have hc := hown.cap.1
    refine ⟨A, c, w, ?_, by simpa using hown, World.grownBy.refl _ _, .inl rfl⟩
    cases A <;> simp [Builtin.append_, run_underlying ht, sizeOf, typeInfo, hi, Builtin.lenOf, Builtin.firstCells, hc, storeCells]
  | some ad =>
    have hnews : ∀ j u, ys[j]? = some u → w.cell? (ad.add j) = some u := by
      intro j u hu
      rcases hrow with rfl | ⟨b, o, h, _, hcell⟩
      · simp at hu
      · cases h
        have := hcell j u hu
        by_cases hj : j = 0 <;> simpa [Addr.add, hj] using this
    obtain ⟨v', w', hr, h2, h3, h4, h5⟩ := run_append_own_at (P := P) w 0 t ty e i z 1 bytes ht hi hz hsize hby hzs (by decide) (.slice A n c) n xs hown ad m d ys (by simpa using hm) hnews h1 hmx hbytes (Nat.zero_le _)
    rw [ab_own] at h3 h5
    have hv : ∃ A' c', v' = .slice A' (n + m) c' := by
      rcases h2.2 with ⟨h6, h7⟩ | ⟨g, cap, _, h6, _⟩
      · exact ⟨none, 0, by rw [h6, h7]⟩
      · exact ⟨_, _, h6⟩
    obtain ⟨A', c', rfl⟩ := hv
    rw [ab_own] at h5
    exact ⟨A', c', w', hr, h2, h3, h5⟩

theorem step_append {P : Program} {ops : Array Oper} {o : Oper} {a : Act} {w : World} {K : Act → World → Prop} {Q : Exit → Act → World → Prop} {E : Prop} (hw : Region.wanted o (yielded ops a.tmps) = true)
    (s x : Operand) (t u : TypeId) (ho : o.op = .call { callee := .builtin .append, args := #[s, x], argTypes := #[t, u] }) (v1 v2 : Value) (h1 : a.eval s = v1) (h2 : a.eval x = v2) (v : Value) (w' : World)
    (hr : (Builtin.append_ #[t, u] o.type #[v1, v2]).run P w = .ok v w') (h : K (a.put o.dst v) w') : if Region.wanted o (yielded ops a.tmps) = true then Oper.wp P o a w K Q else E := by
  rw [if_pos hw]
  unfold Oper.wp execOp
  simp only [ho, resolve, invoke, builtin, Sem.run_bind, Sem.run_pure, Result.andThen_ok, List.map_toArray, List.map_cons, List.map_nil, h1, h2, hr]
  exact h

theorem step_appR {P : Program} {ops : Array Oper} {o : Oper} {a : Act} {w : World} {K : Act → World → Prop} {Q : Exit → Act → World → Prop} {E : Prop} (hw : Region.wanted o (yielded ops a.tmps) = true) (s x : Operand) (t : TypeId)
    (ho : o.op = .call { callee := .builtin .append, args := #[s, x], argTypes := #[t, t] })
    (e : TypeId) (i : TypeInfo) (z : Value) (bytes : Nat) (ht : P.underlying t = some (.slice e)) (hi : P.info? e = some i) (hz : i.zero = some z)
    (hsize : i.size = 1) (hby : i.bytes = bytes) (hzs : z.cells.size = 1)
    (A : Option Addr) (n c : Nat) (xs : List Value) (hs : a.eval s = .slice A n c) (hown : Own e w A n c xs)
    (B : Option Addr) (m d : Nat) (ys : List Value) (hx : a.eval x = .slice B m d) (hB : B = none → d = 0) (hm : ys.length = m) (hrow : Row w B ys) (h1 : ∀ u ∈ ys, u.oneCell' = true)
    (hbytes : (n + m) * bytes ≤ 140737488355328) (h63 : n + m ≤ 140737488355328)
    (h : ∀ A' c' w', Own e w' A' (n + m) c' (xs ++ ys) → w.grownBy w' (ab A) → (ab A' = ab A ∨ ab A' = some w.heap.size) → K (a.put o.dst (.slice A' (n + m) c')) w') : if Region.wanted o (yielded ops a.tmps) = true then Oper.wp P o a w K Q else E := by
  obtain ⟨A', c', w', hr, h2, h3, h4⟩ := run_appR (P := P) w t o.type e i z bytes ht hi hz hsize hby hzs A n c xs hown B m d ys hB hm hrow h1 hbytes h63
  exact step_append hw s x t t ho _ _ hs hx _ w' hr (h A' c' w' h2 h3 h4)

theorem zeroCells_u8 (k : Nat) : Builtin.zeroCells (Value.int .u8 0).cells k = (bvs (List.replicate k 0)).toArray := by
  apply Array.ext
  · simp [Builtin.zeroCells, bvs, Value.cells]
  · intro i h1 h2
    simp [Builtin.zeroCells, bvs, bv, Value.cells, Nat.mod_one]

/-- APPEND OF NOUGHTS ONTO AN OWNED ROW OF BYTES. -/
theorem run_appZero {P : Program} (w : World) (t tn ty e : TypeId) (i : TypeInfo) (kq kn : IntKind) (ht : P.underlying t = some (.slice e)) (htn : P.underlying tn = some (.int kn)) (hi : P.info? e = some i) (hz : i.zero = some (.int .u8 0))
    (hsize : i.size = 1) (hby : i.bytes = 1) (A : Option Addr) (n c : Nat) (xs : List Value) (hown : Own e w A n c xs) (k : Nat) (h63 : n + k ≤ 140737488355328) :
    ∃ A' c' w', (Builtin.append_ #[t, tn] ty #[.slice A n c, .int kq k]).run P w = .ok (.slice A' (n + k) c') w' ∧ Own e w' A' (n + k) c' (xs ++ bvs (List.replicate k 0)) ∧ w.grownBy w' (ab A) ∧ (ab A' = ab A ∨ ab A' = some w.heap.size) := by
  have hxl := hown.len
  have hcap := hown.cap
  have hmx : n + k ≤ maxLen := by unfold maxLen; omega
  have hw : IntKind.i64.wrap (k : Int) = k := by rw [IntKind.wrap_i64]; omega
  have hneg : ¬ ((k : Int) < 0) := by omega
  have hbig : ¬ (281474976710656 < (k : Int)) := by omega
  have hlen : (xs ++ bvs (List.replicate k 0)).length = (n + k) * 1 := by rw [List.length_append, hxl, bvs_length, List.length_replicate, Nat.mul_one]
  by_cases h0 : k = 0
  · subst h0
    refine ⟨A, c, w, ?_, by simpa [bvs] using hown, World.grownBy.refl _ _, .inl rfl⟩
    have hc := hcap.1
    have hw0 : IntKind.i64.wrap 0 = 0 := rfl
    cases A <;> simp [Builtin.append_, run_underlying ht, run_underlying htn, sizeOf, typeInfo, hi, hsize, hby, asInt, asIntOf, hw0, hc, storeCells]
  · by_cases hroom : n + k ≤ c
    · rcases hown.2 with ⟨h1, h2⟩ | ⟨g, cap, cur, h1, hbg, hg, hnc, hcm, hcs, htake⟩
      · injection h1 with _ _ h3; omega
      · injection h1 with h1 _ h3
        subst h1; subst h3
        have hcs' : cur.size = c := by simpa using hcs
        have hst := run_storeCells_at P g n e (bvs (List.replicate k 0)) 0 cur w hg (by simp; omega) (bvs_one _)
        simp only [Nat.add_zero, bvs_length, List.length_replicate] at hst
        have hzc : (Builtin.zeroCells #[Value.int IntKind.u8 0] k).toList = bvs (List.replicate k 0) := by
          have := zeroCells_u8 k
          simp only [Value.cells] at this
          rw [this]
        refine ⟨some ⟨g, 0, none⟩, c, w.setRow g (cur.toList.take n ++ bvs (List.replicate k 0) ++ cur.toList.drop (n + k)).toArray, ?_, ⟨hlen, .inr ⟨g, c, _, rfl, hbg, setRow_heap w g cur _ e _ hg, hroom, hcm, ?_, ?_⟩⟩, ⟨rfl, rfl, rfl, by simp, fun j _ hj => setRow_other w g j _ (fun e => hj (by simp [ab, e]))⟩, .inl rfl⟩
        · simp [Builtin.append_, run_underlying ht, run_underlying htn, sizeOf, typeInfo, zeroValue, hi, hsize, hby, hz, asInt, asIntOf, hw, hneg, hbig, h0, hroom, Addr.add_lit, Value.cells, hzc, hst]
        · simp only [List.size_toArray, List.length_append, List.length_take, List.length_drop, Array.length_toList, bvs_length, List.length_replicate]
          omega
        · have ht' : cur.toList.take n = xs := by simpa using htake
          rw [ht', ← hlen]
          exact List.take_left
    · have hfo : (Builtin.firstCells i.size n (.slice A n c)).run P w.drew = .ok xs.toArray w.drew := by
        rcases hown.2 with ⟨h1, h2⟩ | ⟨g, cap, cur, h1, hbg, hg, hnc, hcm, hcs, htake⟩
        · injection h1 with h1 _ _
          subst h1
          have : xs = [] := List.eq_nil_of_length_eq_zero (by rw [hxl]; exact h2)
          subst this
          simp [Builtin.firstCells]
        · have holds : ∀ j u, xs[j]? = some u → w.cell? ((⟨g, 0, none⟩ : Addr).add j) = some u := World.ownsRow.cells (g := g) hown (by injection h1 with h1; rw [h1]; rfl)
          injection h1 with h1 _ _
          subst h1
          exact run_firstCells_some (P := P) w.drew i.size n ⟨g, 0, none⟩ n c xs (by rw [hsize, hxl, Nat.mul_one]) (by simpa using holds)
      have hr := Lib.run_append_grow_zeros (P := P) w t tn ty e i (.int .u8 0) kq kn ht htn hi hz A n c xs hfo k (by omega) (by rw [hsize]; decide) (by omega) (by omega) (by rw [hby]; omega) (by rw [hby]; exact growslice_fits (by omega) (by omega))
      have hge := grownCap_ge w (n + k) c e
      have hcm : grownCap w (n + k) c e ≤ maxLen := grownCap_le_maxLen w (n + k) c e hmx
      refine ⟨_, _, _, hr, ⟨hlen, .inr ⟨w.heap.size, _, _, rfl, Nat.zero_le _, heap_alloc_new w.drew _, hge, hcm, ?_, ?_⟩⟩, ⟨rfl, rfl, rfl, by simp, fun _ hj _ => heap_alloc_old w.drew _ hj⟩, .inr rfl⟩
      · have hz1 : (Value.int IntKind.u8 0).cells.size = 1 := rfl
        simp only [Array.size_append, List.size_toArray, size_zeroCells, hz1, hxl]
        omega
      · rw [zeroCells_u8 k]
        simp only [Array.toList_append, List.append_assoc]
        rw [← List.append_assoc, ← hlen]
        exact List.take_left

theorem step_appZero {P : Program} {ops : Array Oper} {o : Oper} {a : Act} {w : World} {K : Act → World → Prop} {Q : Exit → Act → World → Prop} {E : Prop} (hw : Region.wanted o (yielded ops a.tmps) = true) (s x : Operand) (t tn : TypeId)
    (ho : o.op = .call { callee := .builtin .append, args := #[s, x], argTypes := #[t, tn] })
    (e : TypeId) (i : TypeInfo) (kq kn : IntKind) (ht : P.underlying t = some (.slice e)) (htn : P.underlying tn = some (.int kn)) (hi : P.info? e = some i) (hz : i.zero = some (.int .u8 0))
    (hsize : i.size = 1) (hby : i.bytes = 1) (A : Option Addr) (n c : Nat) (xs : List Value) (hs : a.eval s = .slice A n c) (hown : Own e w A n c xs) (k : Nat) (hx : a.eval x = .int kq k) (h63 : n + k ≤ 140737488355328)
    (h : ∀ A' c' w', Own e w' A' (n + k) c' (xs ++ bvs (List.replicate k 0)) → w.grownBy w' (ab A) → (ab A' = ab A ∨ ab A' = some w.heap.size) → K (a.put o.dst (.slice A' (n + k) c')) w') : if Region.wanted o (yielded ops a.tmps) = true then Oper.wp P o a w K Q else E := by
  obtain ⟨A', c', w', hr, h2, h3, h4⟩ := run_appZero (P := P) w t tn o.type e i kq kn ht htn hi hz hsize hby A n c xs hown k h63
  exact step_append hw s x t tn ho _ _ hs hx _ w' hr (h A' c' w' h2 h3 h4)
end Go.Proofs.Ytmmpmncioifeoaa.Kit
namespace Go.Proofs.Ytmmpmncioifeoaa.Kit
set_option linter.unusedVariables false
set_option linter.unusedSimpArgs false
open Go Go.RowKit

theorem wpList_appZero {P : Program} (w : World) {ops : Array Oper} {rest : List Oper} {o : Oper} {a : Act} {Q : Exit → Act → World → Prop} (hgd : o.guard = none) (s x : Operand) (t tn : TypeId)
    (ho : o.op = .call { callee := .builtin .append, args := #[s, x], argTypes := #[t, tn] })
    (e : TypeId) (i : TypeInfo) (kq kn : IntKind) (ht : P.underlying t = some (.slice e)) (htn : P.underlying tn = some (.int kn)) (hi : P.info? e = some i) (hz : i.zero = some (.int .u8 0))
    (hsize : i.size = 1) (hby : i.bytes = 1) (A : Option Addr) (n c : Nat) (xs : List Value) (hs : a.eval s = .slice A n c) (hown : Own e w A n c xs) (k : Nat) (hx : a.eval x = .int kq k) (h63 : n + k ≤ 140737488355328)
    (h : ∀ A' c' w', Own e w' A' (n + k) c' (xs ++ bvs (List.replicate k 0)) → w.grownBy w' (ab A) → (ab A' = ab A ∨ ab A' = some w.heap.size) → wpList P ops Q rest (a.put o.dst (.slice A' (n + k) c')) w') : wpList P ops Q (o :: rest) a w := by
  refine wpList_plain hgd fun _ hK => ?_
  obtain ⟨A', c', w', hr, h2, h3, h4⟩ := run_appZero (P := P) w t tn o.type e i kq kn ht htn hi hz hsize hby A n c xs hown k h63
  unfold Oper.wp execOp
  simp only [ho, resolve, invoke, builtin, Sem.run_bind, Sem.run_pure, Result.andThen_ok, List.map_toArray, List.map_cons, List.map_nil, hs, hx, hr]
  exact hK _ _ (h A' c' w' h2 h3 h4)
/-- Cut to nothing. -/
theorem Own.zero {e : TypeId} {w : World} {A : Option Addr} {n c : Nat} {xs : List Value} (h : Own e w A n c xs) : Own e w A 0 c [] := by
  refine ⟨rfl, ?_⟩
  rcases h.2 with ⟨h1, h2⟩ | ⟨g, cap, cur, h1, h0, hg, hnc, hcm, hcs, ht⟩
  · injection h1 with h1 _ h3
    exact .inl ⟨by rw [h1, h3], rfl⟩
  · injection h1 with h1 _ h3
    exact .inr ⟨g, cap, cur, by rw [h1, h3], h0, hg, Nat.zero_le _, hcm, hcs, by simp⟩
/-- A row in a block known whole, from the block's beginning. -/
theorem Own.none_ {e : TypeId} {w : World} {A : Option Addr} {n c : Nat} {xs : List Value} (h : Own e w A n c xs) : A = none → c = 0 := by
  intro hA
  rcases h.2 with ⟨h1, h2⟩ | ⟨g, cap, cur, h1, _⟩
  · injection h1
  · injection h1 with h1; rw [hA] at h1; cases h1
end Go.Proofs.Ytmmpmncioifeoaa.Kit
