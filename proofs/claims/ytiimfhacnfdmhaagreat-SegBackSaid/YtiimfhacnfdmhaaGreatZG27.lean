/- Lemmas: ResM SegF CutK SegBack SegPk MerA. -/
import Derived.Test.YtiimfhacnfdmhaaGreatZG26
import Derived.Lib.Strings
import Derived.Lib.Slices
import Derived.Lib.Small
import Derived.Lib.Walk
import Derived.Lib.BitFns
set_option linter.unusedVariables false
set_option linter.unusedSimpArgs false
namespace Go.Proofs.YtiimfhacnfdmhaaGreat.Seg
open Go Go.RowKit Kit
theorem results_mid {P : Program} {fn : Func} {a p u : Tmp} {ty : TypeId} (h : fn.results = #[.tmp a, .cell p ty, .tmp u]) (tmps : Array Value) (w : World) (g : Nat) (t : TypeId) (cs : List Value) (d : TypeDesc)
    (hp : tmps.getD p undef = .pointer (some ⟨g, 0, none⟩)) (hg : Blk w g t cs) (hu : P.underlying ty = some d) (hd : d.isRow = true) (hi : (P.info? ty).map (·.size) = some cs.length) (x v : Value) (hx : tmps.getD a undef = x) (hv : tmps.getD u undef = v) :
    (results fn tmps).run P w = .ok (.tuple #[x, .agg cs.toArray, v]) w := by
  have h1 : (results fn tmps).run P w = ((asAddr (tmps.getD p undef)).run P w).andThen fun a₁ w₁ => ((loadVar ty a₁).run P w₁).andThen fun v w₂ => .ok (.tuple #[tmps.getD a undef, v, tmps.getD u undef]) w₂ := by
    simp only [results, h]
    simp [Sem.run_bind, Result.andThen]
  rw [h1, hp, hv, hx]
  simp [asAddr, run_loadVar_mid w g 0 ty cs d hg.range hu hd hi, Result.andThen]
open Rec (Rec good ftot fsec split Rrow Sr SrOk rcells rec_under rec_size great_any greatR)
open Ideal (Ts Thing Arg Args Ans zc zc_run zc_length zc_eq z32)
open Vault
structure Pkd [Inhabited Sha.ShaTab] [Inhabited Field.SqTab] (w : World) (c : Vc) (x : Vt) (R : Packed) (w' : World) (x2 : Vt) (X : Option Addr) (cX : Nat) : Prop where
  q : Vq w c x w' x2
  o_ : x2.o = R.o
  a : Ans w w' x2.P X cX R.b
set_option maxHeartbeats 4000000 in
set_option maxRecDepth 100000 in
theorem frame_v [Inhabited Sha.ShaTab] [Inhabited Field.SqTab] (pk : PackF) (hP : PackC pk) (hS : PackS pk) (c : Vc) (x : Vt) (e s : Int) (at' : List UInt8) (A : Option Addr) (m d : Nat) (rs : List Rec) (w : World) (hx : Vx w c x) (h32 : at'.length = 32) (hl : rs.length = m) (hr : Rrow w A rs) (hfar : rs = [] ∨ ∀ i, ab A = some i → ¬ x.P i)
    (hm : m ≤ 1000) (hb : ∀ r ∈ rs, r.body.length ≤ 4096) (hf : x.o.few 10000) (hlo : x.o.long) (hcl : x.cl ≤ 1000000) (he : -9223372036854775808 ≤ e ∧ e ≤ 9223372036854775807) (hs : -9223372036854775808 ≤ s ∧ s ≤ 9223372036854775807) (hlim : c.lim ≤ 9223372036854775807) (R : Packed) (hR : R = pk x.o c.ms c.lim e s at' rs) :
    Calls Tryz.prog 28 #[.pointer (some ⟨c.v, 0, none⟩), .int .i64 e, .int .i64 s, .agg (bvs at').toArray, .slice A m d] w fun r w' => ∃ (x2 : Vt) (X : Option Addr) (cX : Nat),
      r = .returned (.tuple #[.slice X R.b.length cX, .agg (bvs R.h).toArray, .bool (decide (R.e = 0))]) ∧ Pkd w c x R w' x2 X cX := by
  have hz := zc_run
  have k0 : Kp nob w ((w.alloc (.cells (bvs at').toArray 32)).alloc (.cells zc.toArray 32)) := ((Kp.refl nob w).alloc _).alloc _
  have HB1 := Lib.hid ((Blk.new w 32 (bvs at')).alloc (.cells zc.toArray 32))
  have HB2 := Lib.hid (show Blk ((w.alloc (.cells (bvs at').toArray 32)).alloc (.cells zc.toArray 32)) (w.heap.size + 1) 32 zc from Blk.new' (by simp) rfl)
  have HK := Lib.hid k0
  have HX := Lib.hid hx
  have hcall := hP c x e s at' A m d rs _ (hx.keep0 k0) h32 hl (hr.keep0 k0) hfar hm hb hf hlo hcl he hs hlim
  have hh := hS.h32 x.o c.ms c.lim e s at' rs hlo h32
  rw [← hR] at hcall hh
  have HP := Lib.hid hcall
  have HH := Lib.hid (And.intro hh h32)
  clear hcall hh h32 k0 hx hl hr hfar hm hb hf hlo hcl he hs hlim hR
  go_enter Tryz.func28, Tryz.ntmps28
  go_wp2_with (first
    | (refine wpList_load_blk rfl 32 (.tmp 8) rfl _ _ _ HB1.out rfl _ rarr_under rfl (rarr_size at' HH.out.2) ?_)
    | (go_at_call 23; refine HP.out.mono ?_; rintro r w5 ⟨F2, P2, sl2, cl2, X, cX, rfl, hq, hcl, hA⟩; have HQ := Lib.hid hq; have HA := Lib.hid hA; have HB5 := Lib.hid (Blk.new w5 32 zc); have HN1 : Hid (¬ P2 (w.heap.size + 1)) := Lib.hid (hq.new HX.out (by omega) (by simp <;> omega)); have HB25 := Lib.hid (HB2.out.keep hq.kp (fun e => by have := HX.out.lt _ e; omega)); have hs5 : w.heap.size + 2 ≤ w5.heap.size := (by have := hq.kp.size; simp at this; omega); have HS5 := Lib.hid hs5; clear hq hcl hA hs5)
    | (refine wpList_store_blk rfl 32 (.tmp 14) (.tmp 24) rfl _ _ _ (bvs R.h) HB5.out rfl rfl (by rw [bvs_length, HH.out.1, zc_length]) (by rw [bvs_length, HH.out.1]; kernel_rfl) (bvs_one _) ?_; intro w6 hB6 k6 z6; have HK6 : Hid (Kp nob w5 w6) := Lib.hid (((Kp.refl nob w5).alloc (.cells zc.toArray 32)).trans k6 (fun i e => .inr (by have e : i = w5.heap.size := e; omega))); have HB6 := Lib.hid hB6; clear hB6 k6 z6)
    | fail)
  refine reg_begin (fun w' => Blk w' w5.heap.size 32 (bvs R.h)) (by kernel_rfl) (HB6.out.keep (Kp.refl nob _).drew (fun e => e)) (fun hS0 => ?_)
  refine reg_take (v := .slice X R.b.length cX) 0 (some 26) rfl rfl (by kernel_rfl) (by kernel_rfl) (by kernel_rfl) (by rfl) hS0 (fun w' hw => by go_simp) ?_
  simp only [Act.put, List.setIfInBounds_toArray, List.set_cons_zero, List.set_cons_succ]
  refine reg_load 1 (some 27) 32 (.tmp 14) rfl rfl rfl (by kernel_rfl) (by kernel_rfl) (by kernel_rfl) (by rfl) hS0 w5.heap.size 0 rfl (bvs R.h) _ (fun w hw => hw.range) rarr_under rfl (rarr_size R.h HH.out.1) ?_
  simp only [Act.put, List.setIfInBounds_toArray, List.set_cons_zero, List.set_cons_succ]
  refine reg_take (v := .int .i64 R.e) 2 (some 28) rfl rfl (by kernel_rfl) (by kernel_rfl) (by kernel_rfl) (by rfl) hS0 (fun w' hw => by go_simp) ?_
  simp only [Act.put, List.setIfInBounds_toArray, List.set_cons_zero, List.set_cons_succ]
  refine reg_take (v := .bool (decide (R.e = 0))) 3 (some 29) rfl rfl (by kernel_rfl) (by kernel_rfl) (by kernel_rfl) (by rfl) hS0 (fun w' hw => by go_simp; rfl) ?_
  simp only [Act.put, List.setIfInBounds_toArray, List.set_cons_zero, List.set_cons_succ]
  refine reg_take (v := .slice X R.b.length cX) 4 (some 10) rfl rfl (by kernel_rfl) (by kernel_rfl) (by kernel_rfl) (by rfl) hS0 (fun w' hw => by go_simp) ?_
  simp only [Act.put, List.setIfInBounds_toArray, List.set_cons_zero, List.set_cons_succ]
  have HK6d : Hid (Kp nob w5 w6.drew) := Lib.hid HK6.out.drew
  have HB26 := Lib.hid (HB25.out.keep HK6d.out (fun e => e))
  refine reg_store 5 none 32 (.tmp 11) (.tmp 27) rfl rfl rfl (by kernel_rfl) (by rfl) (w.heap.size + 1) 32 zc (bvs R.h) HB26.out rfl rfl (by rw [bvs_length, HH.out.1, zc_length]) (rarr_size R.h HH.out.1) (bvs_one _) ?_
  intro w7 hB7 k7 z7
  have hS7 : Blk w7 w5.heap.size 32 (bvs R.h) := hS0.keep k7 (fun e => by have e : w5.heap.size = w.heap.size + 1 := e; have := HS5.out; omega)
  refine ⟨hS7, fun _ => ?_⟩
  simp only [Act.put, List.setIfInBounds_toArray, List.set_cons_zero, List.set_cons_succ]
  refine reg_take (v := .bool (decide (R.e = 0))) 6 (some 12) rfl rfl (by kernel_rfl) (by kernel_rfl) (by kernel_rfl) (by rfl) hS7 (fun w' hw => by go_simp) ?_
  simp only [Act.put, List.setIfInBounds_toArray, List.set_cons_zero, List.set_cons_succ]
  refine reg_end (by kernel_rfl) ?_
  have HB7 := Lib.hid hB7
  have hsz : w.heap.size + 2 ≤ w6.drew.heap.size := by have h1 := HK6d.out.size; have h2 := HS5.out; omega
  have HQ7 : Hid (Vq w c x w7 ⟨F2, P2, R.o, sl2, cl2⟩) := Lib.hid (((HQ.out.back HK.out).over0 HK6d.out).over k7 (fun i _ e => by have e : i = w.heap.size + 1 := e; subst e; exact ⟨by omega, HN1.out⟩) HX.out.sz)
  have HA7 : Hid (Ans w w7 P2 X cX R.b) := Lib.hid ⟨(HA.out.row.keep0 HK6d.out).keep k7 (fun i e e2 => by have e2 : i = w.heap.size + 1 := e2; have := (HA.out.far i e).1; simp at this; omega), fun i e => ⟨by have := (HA.out.far i e).1; simp at this; omega, (HA.out.far i e).2⟩, HA.out.cap, HA.out.mx, HA.out.nil⟩
  clear hB7 k7 z7 hS7 hS0 hsz
  go_wp2
  exact bodyPost_ret (results_mid rfl _ _ (w.heap.size + 1) _ _ _ rfl HB7.out rarr_under rfl (rarr_size R.h HH.out.1) _ _ rfl rfl) rfl ⟨_, X, cX, rfl, HQ7.out, rfl, HA7.out⟩
end Go.Proofs.YtiimfhacnfdmhaaGreat.Seg
namespace Go.Proofs.YtiimfhacnfdmhaaGreat.Kit
open Go Go.RowKit
def cutK (A : Option Addr) (c k z : Nat) : Option Addr := if c = k then A else A.map (·.add (k * z))
theorem ab_cutK (A : Option Addr) (c k z : Nat) : ab (cutK A c k z) = ab A := by
  unfold cutK
  split
  · rfl
  · cases A with
    | none => rfl
    | some a => simp [ab, Addr.add]; split <;> rfl
theorem Row.cutK {w : World} {A : Option Addr} {xs : List Value} (h : Row w A xs) {c k z : Nat} (hl : xs.length ≤ c * z) : Row w (cutK A c k z) (xs.drop (k * z)) := by
  unfold Kit.cutK
  split
  · rename_i e; subst e; rw [List.drop_eq_nil_of_le hl]; exact Row.nil _ _
  · exact h.drop (k * z)
theorem run_toK {P : Program} (t e : TypeId) (z : Nat) (ht : P.underlying t = some (.slice e)) (hz : ∀ w, (sizeOf e).run P w = .ok z w) (A : Option Addr) (n c k : Nat) (hk : k ≤ n) (hc : n ≤ c) (w : World) : (Instr.slice t (.slice A n c) none (some (.int .i64 k)) none).run P w = .ok (.slice A k c) w := by
  have h1 : (0 : Int) ≤ k ∧ (k : Int) ≤ c := by omega
  have he := hz w
  cases A with
  | none => simp [Instr.slice, run_underlying ht, Instr.sliceBounds, run_sliceBound, he, h1]
  | some a =>
    have h3 : a.add 0 = a := rfl
    simp [Instr.slice, run_underlying ht, Instr.sliceBounds, run_sliceBound, he, h1, h3]
theorem run_fromK {P : Program} (t e : TypeId) (z : Nat) (ht : P.underlying t = some (.slice e)) (hz : ∀ w, (sizeOf e).run P w = .ok z w) (A : Option Addr) (n c k : Nat) (hk : k ≤ n) (w : World) : (Instr.slice t (.slice A n c) (some (.int .i64 k)) none none).run P w = .ok (.slice (cutK A c k z) (n - k) (c - k)) w := by
  have h1 : (0 : Int) ≤ k ∧ (k : Int) ≤ n := by omega
  have he := hz w
  simp [Instr.slice, run_underlying ht, Instr.sliceBounds, run_sliceBound, he, cutK, hk]
theorem exec_toK {P : Program} (t e : TypeId) (z : Nat) (ht : P.underlying t = some (.slice e)) (hz : ∀ w, (sizeOf e).run P w = .ok z w) {w : World} {a : Act} {o : Oper} (x y : Operand) (ho : o.op = .slice t x none (some y) none) (A : Option Addr) (n c k : Nat) (hx : a.eval x = .slice A n c) (hy : a.eval y = .int .i64 k) (hk : k ≤ n) (hc : n ≤ c) :
    (execOp a.eval o).run P w = .ok (.value (.slice A k c)) w := by
  have hr : (Instr.sliceAt t (.slice A n c) none (some (.int .i64 k)) none).run P w = .ok (.slice A k c) w := by
    have := run_toK t e z ht hz A n c k hk hc w
    unfold Instr.sliceAt
    simpa [run_underlying ht] using this
  unfold execOp
  simp only [ho, hx, hy, Option.map_some, Option.map_none, Sem.run_bind, hr, Result.andThen_ok, Sem.run_pure]
theorem exec_fromK {P : Program} (t e : TypeId) (z : Nat) (ht : P.underlying t = some (.slice e)) (hz : ∀ w, (sizeOf e).run P w = .ok z w) {w : World} {a : Act} {o : Oper} (x y : Operand) (ho : o.op = .slice t x (some y) none none) (A : Option Addr) (n c k : Nat) (hx : a.eval x = .slice A n c) (hy : a.eval y = .int .i64 k) (hk : k ≤ n) :
    (execOp a.eval o).run P w = .ok (.value (.slice (cutK A c k z) (n - k) (c - k))) w := by
  have hr : (Instr.sliceAt t (.slice A n c) (some (.int .i64 k)) none none).run P w = .ok (.slice (cutK A c k z) (n - k) (c - k)) w := by
    have := run_fromK t e z ht hz A n c k hk w
    unfold Instr.sliceAt
    simpa [run_underlying ht] using this
  unfold execOp
  simp only [ho, hx, hy, Option.map_some, Option.map_none, Sem.run_bind, hr, Result.andThen_ok, Sem.run_pure]
def Lrow (w : World) (A : Option Addr) (ls : List (List UInt8)) : Prop := Row w A (ls.flatMap bvs)
theorem Lrow.keep {F : Nat → Prop} {w w' : World} {A : Option Addr} {ls : List (List UInt8)} (h : Lrow w A ls) (k : Kp F w w') (hf : ls = [] ∨ ∀ i, ab A = some i → ¬ F i) : Lrow w' A ls := by
  rcases hf with e | e
  · subst e; exact Row.nil _ _
  · exact Row.keep h k e
theorem Lrow.keep0 {w w' : World} {A : Option Addr} {ls : List (List UInt8)} (h : Lrow w A ls) (k : Kp nob w w') : Lrow w' A ls := Row.keep0 h k
theorem Lrow.take {w : World} {A : Option Addr} {ls : List (List UInt8)} (h : Lrow w A ls) (h32 : ∀ d ∈ ls, d.length = 32) (k : Nat) : Lrow w A (ls.take k) := by
  unfold Lrow at *
  rw [← fm_take (k := 32) ls (fun a ha => by rw [bvs_length]; exact h32 a ha)]
  exact Row.take h (k * 32)
theorem Lrow.drop {w : World} {A : Option Addr} {ls : List (List UInt8)} (h : Lrow w A ls) (h32 : ∀ d ∈ ls, d.length = 32) (c k : Nat) (hl : ls.length ≤ c) : Lrow w (cutK A c k 32) (ls.drop k) := by
  unfold Lrow at *
  rw [← fm_drop (k := 32) ls (fun a ha => by rw [bvs_length]; exact h32 a ha)]
  exact Row.cutK h (by rw [fm_length (k := 32) ls (fun a ha => by rw [bvs_length]; exact h32 a ha)]; omega)
theorem Lrow.lt {w : World} {A : Option Addr} {ls : List (List UInt8)} (h : Lrow w A ls) (h32 : ∀ d ∈ ls, d.length = 32) (hn : ls ≠ []) : ∀ i, ab A = some i → i < w.heap.size :=
  Row.lt h (fun e => by
    have := congrArg List.length e
    rw [fm_length (k := 32) ls (fun a ha => by rw [bvs_length]; exact h32 a ha)] at this
    have : 0 < ls.length := List.length_pos_iff.2 hn
    simp only [List.length_nil] at *
    omega)
theorem Lrow.rng {w : World} {A : Option Addr} {ls : List (List UInt8)} (h : Lrow w A ls) (h32 : ∀ d ∈ ls, d.length = 32) {i : Nat} (hi : i < ls.length) : ∃ b o, A = some ⟨b, o, none⟩ ∧ w.rangeAt b (o + i * 32) (bvs ls[i]) := by
  have hf := fm_length (k := 32) (f := bvs) ls (fun a ha => by rw [bvs_length]; exact h32 a ha)
  rcases h with h | ⟨b, o, rfl, hb, hc⟩
  · have := congrArg List.length h
    rw [hf] at this
    simp only [List.length_nil] at this; omega
  · refine ⟨b, o, rfl, fun j u hu => ?_⟩
    have hj : j < 32 := by have := (List.getElem?_eq_some_iff.1 hu).1; rw [bvs_length, h32 _ (List.getElem_mem hi)] at this; exact this
    have e := fm_at (k := 32) (f := bvs) ls (fun a ha => by rw [bvs_length]; exact h32 a ha) i j ls[i] (List.getElem?_eq_getElem hi) hj
    rw [hu] at e
    rw [Nat.add_assoc]
    exact hc _ _ e
end Go.Proofs.YtiimfhacnfdmhaaGreat.Kit
namespace Go.Proofs.YtiimfhacnfdmhaaGreat.Seg
open Go Go.RowKit Kit
open Rec (Rec good ftot fsec split Rrow Sr SrOk rcells rec_under rec_size great_any greatR fSame)
open Ideal (Ts Thing Arg Args Ans zc zc_run zc_length zc_eq z32)
open Vault
open Field (Sq)
theorem eq32 (xs ys : List UInt8) (hx : xs.length = 32) (hy : ys.length = 32) (w : World) : (Op.equalIn 10000 32 (.agg (bvs xs).toArray) (.agg (bvs ys).toArray)).run Tryz.prog w = .ok (xs == ys) w :=
  run_equalIn_bytes w 9998 32 5 32 rarr_under (by kernel_rfl) (fun _ => by kernel_rfl) xs ys hx hy
theorem byte_info : ∃ i, Tryz.prog.info? 5 = some i ∧ i.zero = some (.int .u8 0) ∧ i.size = 1 ∧ i.bytes = 1 := info_parts3 (by kernel_rfl)
theorem byte_sizeOf (w : World) : (sizeOf 5).run Tryz.prog w = .ok 1 w := by kernel_rfl
theorem u8s_und : Tryz.prog.underlying 42 = some (.slice 5) := by kernel_rfl
theorem exec_eq32 {a : Act} {o : Oper} {w : World} (i j : Operand) (u : TypeId) (l m : List UInt8) (hl : l.length = 32) (hm : m.length = 32) (ho : o.op = .binOp .eql 32 i j u) (hx : a.eval i = .agg (bvs l).toArray) (hy : a.eval j = .agg (bvs m).toArray) : (execOp a.eval o).run Tryz.prog w = .ok (.value (.bool (decide (l = m)))) w := by
  have hg : (eqGuard .eql 32 i j (.agg (bvs l).toArray) (.agg (bvs m).toArray)).run Tryz.prog w = .ok () w := by
    unfold eqGuard; kernel_rfl
  have hn : (binOp .eql 32 (.agg (bvs l).toArray) (.agg (bvs m).toArray)).run Tryz.prog w = .ok (.bool (decide (l = m))) w := by
    have h : (Op.equal 32 (.agg (bvs l).toArray) (.agg (bvs m).toArray)).run Tryz.prog w = .ok (l == m) w := eq32 l m hl hm w
    have hd : (l == m) = decide (l = m) := by rw [Bool.eq_iff_iff]; simp
    simp only [binOp]
    simp [h, hd, Result.andThen]
  unfold execOp
  simp only [ho, hx, hy, Sem.run_bind, hg, hn, Result.andThen_ok, Sem.run_pure]
theorem kept_any [Inhabited Sha.ShaTab] [Inhabited Field.SqTab] (real : Bool) (at' : List UInt8) (w : World) (h : at'.length = 32) (ht : Sha.Tabs w) (hs : Sq w) (hg : 2 < w.heap.size) :
    Calls Tryz.prog 27 #[.bool real, .agg (bvs at').toArray] w fun e w' => ∃ c x o, e = .returned (.pointer (some ⟨c.v, 0, none⟩)) ∧ NewV w w' o at' 1099511627776 c x ∧ o.long ∧ o.few 0 := by
  cases real with
  | true =>
    refine (kept_real at' w h ht hs hg).mono ?_
    rintro e w' ⟨c, x, rfl, hn⟩
    exact ⟨c, x, _, rfl, hn, rl_long, trivial⟩
  | false =>
    refine (kept_dream at' w h).mono ?_
    rintro e w' ⟨c, x, rfl, hn⟩
    exact ⟨c, x, _, rfl, hn, trivial, Nat.le_refl _⟩
set_option maxHeartbeats 4000000 in
set_option maxRecDepth 100000 in
theorem back_walk [Inhabited Sha.ShaTab] [Inhabited Field.SqTab] (pk : PackF) (hP : PackC pk) (hS : PackS pk) (hU : UnpackC pk) (hSec : SectorsC) (hLen : LengthC) (hSize : SizeC) (real : Bool) (epoch seq : Int) (at' : List UInt8) (A : Option Addr) (n c : Nat) (rs : List Rec) (w : World) (ht : Sha.Tabs w) (hs : Sq w) (hg : 2 < w.heap.size)
    (he : (Lit.int .i64 epoch).wf = true) (hsq : (Lit.int .i64 seq).wf = true) (h32 : at'.length = 32) (hl : rs.length = n) (hn : A = none → c = 0) (hr : Row w A (rs.flatMap rcells)) (hc : n ≤ c) (hm : c ≤ maxLen) :
    Calls Tryz.prog 5 #[.bool real, .int .i64 epoch, .int .i64 seq, .agg (bvs at').toArray, .slice A n c] w fun e w' => e = .returned (.bool true) ∧ Kp nob w w' := by
  have HR := Lib.hid (show Rrow w A rs from hr)
  have HLN := Lib.hid hl; have HC := Lib.hid hc; have HM := Lib.hid hm
  have HI := Lib.hid (And.intro (i64_range he) (i64_range hsq))
  have H32 := Lib.hid h32
  have HTB := Lib.hid (fun (w' : World) (k : Kp nob w w') => And.intro (ht.keep0 k) (And.intro (hs.keep0 k) (Nat.lt_of_lt_of_le hg k.size)))
  clear hr hl hn hm hc he hsq h32 ht hs hg
  have HAL := Lib.hid (fun w => alive_yes pk hP hS hSec hLen w)
  have HBA := Lib.hid (Blk.new w 32 (bvs at'))
  have HK0 := Lib.hid ((Kp.refl nob w).alloc (.cells (bvs at').toArray 32))
  have hgr := fun w' (k : Kp nob w w') => great_any A n c rs 60 w' HLN.out (HR.out.keep0 k) (by have := HC.out; have := HM.out; omega)
  cases hg : greatR rs 60 with
  | true =>
    rw [hg] at hgr
    go_enter Tryz.func5, Tryz.ntmps5
    go_wp2_with fail
    refine (HAL.out _).mono ?_
    rintro e w1 ⟨rfl, k1⟩
    go_wp2_with fail
    refine (hgr w1 (HK0.out.trans k1 (fun _ e => e.elim))).mono ?_
    rintro e w2 ⟨rfl, k2⟩
    go_wp2
    go_ret
    exact ⟨rfl, (HK0.out.trans k1 (fun _ e => e.elim)).trans k2 (fun _ e => e.elim)⟩
  | false =>
  rw [hg] at hgr
  obtain ⟨h60, hbd⟩ := great_no (most := 60) HLN.out hg
  have hft : ftot rs ≤ 1000000 := by have := ftot_le rs hbd; rw [HLN.out] at this; omega
  have H60 := Lib.hid h60; have HFT := Lib.hid hft; have HBD := Lib.hid hbd
  clear hg hbd hft
  go_enter Tryz.func5, Tryz.ntmps5
  go_wp2_with fail
  refine (HAL.out _).mono ?_
  rintro e w1 ⟨rfl, k1⟩
  go_wp2_with fail
  refine (hgr w1 (HK0.out.trans k1 (fun _ e => e.elim))).mono ?_
  rintro e w2 ⟨rfl, k2⟩
  have HK2 := Lib.hid ((HK0.out.trans k1 (fun _ e => e.elim)).trans k2 (fun _ e => e.elim))
  have HBA2 := Lib.hid ((HBA.out.keep k1 (fun e => e)).keep k2 (fun e => e))
  clear hgr k1 k2
  go_wp2_with (first
    | (refine wpList_load_blk rfl 32 (.tmp 8) rfl _ _ _ HBA2.out rfl _ rarr_under rfl (rarr_size at' H32.out) ?_)
    | fail)
  obtain ⟨t1, t2, t3⟩ := HTB.out w2 HK2.out
  refine (kept_any real at' w2 H32.out t1 t2 t3).mono ?_
  clear t1 t2 t3
  rintro e w3 ⟨cv, x, o, rfl, hnv, hlo, hfew⟩
  have HNV := Lib.hid hnv
  have HLO := Lib.hid (And.intro hlo hfew)
  have HK3 := Lib.hid (HK2.out.trans hnv.k (fun _ e => e.elim))
  have HBA3 := Lib.hid (HBA2.out.keep hnv.k (fun e => e))
  have hs2 : w.heap.size + 1 ≤ w2.heap.size := by have := HBA2.out.lt; omega
  have HS2 := Lib.hid hs2
  clear hnv hlo hfew hs2
  obtain ⟨R, hR⟩ : ∃ R, R = pk x.o cv.ms cv.lim epoch seq at' rs := ⟨_, rfl⟩
  have HFR := Lib.hid (frame_v pk hP hS cv x epoch seq at' A n c rs w3 HNV.out.vx H32.out HLN.out (HR.out.keep0 HK3.out) ((rrow_far HR.out).imp id (fun h i e e2 => by have h1 := h i e; have h2 := HNV.out.vx.ge i e2; have h3 := HNV.out.b; have h4 := HS2.out; omega)) (by omega) HBD.out (by rw [HNV.out.o_]; exact HLO.out.2.mono (by omega)) (by rw [HNV.out.o_]; exact HLO.out.1) (by rw [HNV.out.cl]; omega) HI.out.1 HI.out.2 (by rw [HNV.out.lm]; omega) R hR)
  have HRR := Lib.hid hR
  clear hR
  have hz := zc_run
  go_wp2_with (first
    | (refine wpList_load_blk rfl 32 (.tmp 8) rfl _ _ _ HBA3.out rfl _ rarr_under rfl (rarr_size at' H32.out) ?_)
    | fail)
  refine HFR.out.mono ?_
  rintro r w4 ⟨x2, X, cX, rfl, hpd⟩
  have HPD := Lib.hid hpd
  have HK4 : Hid (Kp nob w w4) := Lib.hid (HK3.out.trans hpd.q.kp (fun i e => .inr (by have h2 := HNV.out.vx.ge i e; have h3 := HNV.out.b; have h4 := HS2.out; omega)))
  have HB4 := Lib.hid (Blk.new w4 32 zc)
  have HBA4 := Lib.hid (HBA3.out.keep hpd.q.kp (fun e => by have h2 := HNV.out.vx.ge _ e; have h3 := HNV.out.b; have h4 := HS2.out; omega))
  clear hpd
  have hrh : R.h.length = 32 := by rw [HRR.out]; exact hS.h32 _ _ _ _ _ _ _ (by rw [HNV.out.o_]; exact HLO.out.1) H32.out
  have HRH := Lib.hid hrh
  clear hrh
  by_cases h0 : R.e = 0
  case neg =>
    have hde : decide (R.e = 0) = false := decide_eq_false h0
    rw [hde]
    go_wp2_with (first
      | (refine wpList_store_blk rfl 32 (.tmp 13) (.tmp 33) rfl _ _ _ (bvs R.h) HB4.out rfl rfl (by rw [bvs_length, HRH.out, zc_length]) (by rw [bvs_length, HRH.out]; kernel_rfl) (bvs_one _) ?_; intro w6 hB6 k6 z6)
      | fail)
    go_ret
    exact ⟨rfl, (HK4.out.alloc (.cells zc.toArray 32)).trans k6 (fun i e => .inr (by have e : i = w4.heap.size := e; have := HK4.out.size; omega))⟩
  have hde : decide (R.e = 0) = true := decide_eq_true h0
  rw [hde]
  clear hde
  have HE0 := Lib.hid h0
  clear h0
  go_wp2_with (first
    | (refine wpList_store_blk rfl 32 (.tmp 13) (.tmp 33) rfl _ _ _ (bvs R.h) HB4.out rfl rfl (by rw [bvs_length, HRH.out, zc_length]) (by rw [bvs_length, HRH.out]; kernel_rfl) (bvs_one _) ?_; intro w6 hB6 k6 z6; have HB6 := Lib.hid hB6; have HK46 : Hid (Kp nob w4 w6) := Lib.hid (((Kp.refl nob w4).alloc (.cells zc.toArray 32)).trans k6 (fun i e => .inr (by have e : i = w4.heap.size := e; omega))); have HBA6 := Lib.hid (HBA4.out.keep HK46.out (fun e => e)); clear hB6 k6 z6)
    | (refine wpList_load_blk rfl 32 (.tmp 8) rfl _ _ _ HBA6.out rfl _ rarr_under rfl (rarr_size at' H32.out) ?_)
    | fail)
  refine (hU cv x2 x.o epoch seq at' X R.b.length cX R.b rs w6 (HPD.out.q.now.keep0 HK46.out) H32.out (by rw [← HRR.out]; exact HE0.out) (by rw [← HRR.out]) (by rw [← HRR.out, HPD.out.o_]; exact .refl _) ((Vault.ans_arg HPD.out.a).keep0 HK46.out) HI.out.1 HI.out.2 (by rw [HNV.out.lm]; omega) (by rw [HPD.out.o_, HRR.out]; exact (hS.few _ _ _ _ _ _ _ 0 (by rw [HNV.out.o_]; exact HLO.out.2) (by rw [HLN.out]; omega)).mono (by omega)) (by rw [HPD.out.o_, HRR.out]; exact hS.long _ _ _ _ _ _ _ (by rw [HNV.out.o_]; exact HLO.out.1))).mono ?_
  rintro r w7 ⟨F3, P3, o3, sl3, cl3, Y, cY, rfl, hq7, hso⟩
  rw [← HRR.out]
  have hlt4 : ∀ i, x2.P i → i < w4.heap.size := HPD.out.q.now.lt
  have HK7 : Hid (Kp nob w w7) := Lib.hid ((HK4.out.trans HK46.out (fun _ e => e.elim)).trans hq7.kp (fun i e => .inr (by have h1 := HPD.out.q.now.ge i e; have h3 := HNV.out.b; have h4 := HS2.out; omega)))
  have HB7 := Lib.hid (HB6.out.keep hq7.kp (fun e => by have := hlt4 _ e; omega))
  have HBZ := Lib.hid (Blk.new w7 32 zc)
  have HBB := Lib.hid (hq7.arg ((Vault.ans_arg HPD.out.a).keep0 HK46.out))
  have HSO := Lib.hid hso
  clear hq7 hso hlt4
  obtain ⟨rest, hrest, hrl⟩ : ∃ rest, R.b = num8 (ftot rs : Nat) ++ rest ∧ ftot rs = 8 + rest.length := by
    have := hS.begins x.o cv.ms cv.lim epoch seq at' rs (by rw [HNV.out.o_]; exact HLO.out.1) (by rw [← HRR.out]; exact HE0.out)
    rw [← HRR.out] at this
    exact this
  have hpo : ftot rs ≤ 16384 := by
    have h1 := hS.err x.o cv.ms cv.lim epoch seq at' rs
    rw [← HRR.out, HE0.out] at h1
    exact (perr_ok h1.symm).2.2.1
  have h48 : 48 ≤ ftot rs := by unfold ftot; omega
  have hbl : R.b.length = ftot rs := by rw [hrest, List.length_append, num8_length]; omega
  have HL1 : Hid (lenF (R.b ++ [9]) = ftot rs) := Lib.hid (by rw [hrest]; exact lenF_of (ftot rs) rest [9] hrl h48 hpo)
  have HL2 : Hid (lenF (R.b.take (ftot rs - 1)) = 0) := Lib.hid (by rw [hrest]; exact lenF_less (ftot rs) rest hrl h48 hpo)
  rw [hbl]
  have HBL := Lib.hid (And.intro hbl (And.intro h48 hpo))
  clear hrest hrl hbl rest
  obtain ⟨T, hT⟩ : ∃ T, T = ftot rs := ⟨_, rfl⟩
  rw [← hT] at HL1 HL2 HBL h48 hpo ⊢
  have HT := Lib.hid hT
  clear hT
  have HTE : Hid ((T : Int) - 1 = ((T - 1 : Nat) : Int)) := Lib.hid (by omega)
  have HT1 : Hid (1 ≤ T ∧ T ≤ 16384) := Lib.hid ⟨by omega, hpo⟩
  obtain ⟨ib, hb1, hb2, hb3, hb4⟩ := byte_info
  have HXN : Hid (X = none → T = 0) := Lib.hid (fun e => by have h1 := HBB.out.nil e; have h2 := HBB.out.cap; rw [HBL.out.1] at h2; omega)
  have HSZ := Lib.hid (fun (w' : World) (k : Kp nob w w') => hSize A n c rs w' HLN.out (HR.out.keep0 k) (by have := HFT.out; omega) (by omega))
  rw [← HT.out] at HSZ
  have HSA := Lib.hid (fun (w' : World) (k7 : Kp nob w7 w') (k : Kp nob w w') => fSame Y rs.length cY rs A n c rs w' rfl (HSO.out.row.keep0 k7) (Nat.le_trans HSO.out.cap HSO.out.mx) HLN.out (HR.out.keep0 k))
  rw [decide_eq_true rfl] at HSA
  go_wp2_with (first
    | (refine wpList_store_blk rfl 32 (.tmp 16) (.tmp 45) rfl _ _ _ (bvs R.h) HBZ.out rfl rfl (by rw [bvs_length, HRH.out, zc_length]) (by rw [bvs_length, HRH.out]; kernel_rfl) (bvs_one _) ?_; intro w8 hB8 k8 z8; have HK78 : Hid (Kp nob w7 w8) := Lib.hid (((Kp.refl nob w7).alloc (.cells zc.toArray 32)).trans k8 (fun i e => .inr (by have e : i = w7.heap.size := e; omega))); have HB8 := Lib.hid hB8; have HB78 := Lib.hid (HB7.out.keep HK78.out (fun e => e)); clear hB8 k8 z8)
    | (go_at_call 17; refine (HSA.out w8 HK78.out (HK7.out.trans HK78.out (fun _ e => e.elim))).mono ?_; rintro e w9 ⟨rfl, k9⟩; have HK79 : Hid (Kp nob w7 w9) := Lib.hid (HK78.out.trans k9 (fun _ e => e.elim)); have HB9 := Lib.hid (HB8.out.keep k9 (fun e => e)); have HB79 := Lib.hid (HB78.out.keep k9 (fun e => e)); clear k9)
    | (refine wpList_load_gd 32 (.tmp 16) rfl (by rfl) w7.heap.size _ (bvs R.h) HB9.out rfl _ rarr_under rfl (rarr_size R.h HRH.out) ?_)
    | (refine wpList_load_gd 32 (.tmp 13) rfl (by rfl) w4.heap.size _ (bvs R.h) HB79.out rfl _ rarr_under rfl (rarr_size R.h HRH.out) ?_)
    | (refine wpList_gd (v := .bool true) (by rfl) (by rw [exec_eq32 (.tmp 55) (.tmp 56) _ R.h R.h HRH.out HRH.out rfl rfl rfl, decide_eq_true rfl]) ?_)
    | (go_at_call 11; refine (HSZ.out w9 (HK7.out.trans HK79.out (fun _ e => e.elim))).mono ?_; rintro e w10 ⟨rfl, k10⟩; have HK710 : Hid (Kp nob w7 w10) := Lib.hid (HK79.out.trans k10 (fun _ e => e.elim)); clear k10)
    | (refine wpList_appEmpty_gd _ (.tmp 67) (.tmp 68) 42 rfl (by rfl) 1 (by decide) 5 ib _ 1 u8s_und hb1 hb2 hb3 hb4 rfl w10.heap.size rfl (by have := ownK_new w10 1 0 5 [] rfl (by simp [maxLen]); simpa using this) X T cX (bvs R.b) rfl HXN.out (by rw [bvs_length, HBL.out.1, Nat.mul_one]) ((HBB.out.row.keep0 HK710.out).keep0 ((Kp.refl nob w10).alloc _)) (by omega) (by simp [maxLen]; omega) ?_
       intro A1 c1 w11 ho1 hk1 ha1
       have HO1 := Lib.hid ho1
       have HK711 : Hid (Kp nob w7 w11) := Lib.hid ((HK710.out.alloc (.cells #[] 5)).trans hk1 (fun _ e => e.elim))
       have HA1 : Hid (∀ j, ab A1 = some j → w7.heap.size ≤ j) := Lib.hid (fun j hj => by have h1 := HK710.out.size; rcases ha1 with e | e <;> (rw [e] at hj; cases hj; simp; try omega))
       clear ho1 hk1 ha1)
    | (refine wpList_appKO_gd _ (.tmp 69) (.tmp 70) 42 rfl (by rfl) 1 (by decide) 5 ib _ 1 u8s_und hb1 hb2 hb3 hb4 rfl A1 T c1 (bvs R.b) rfl (HO1.out.alloc _) (some ⟨w11.heap.size, 0, none⟩) 1 1 (bvs [9]) rfl (fun e => by cases e) rfl (row_new w11 (bvs [9]) _) (bvs_one _) (by omega) (by simp [maxLen]; omega) ?_
       intro A2 c2 w12 ho2 hg2 ha2
       have HLE1 := Lib.hid (hLen A2 (T + 1) c2 (R.b ++ [9]) w12 (by rw [List.length_append, HBL.out.1]; rfl) (by rw [bvs_append]; exact OwnK.row ho2) (by omega) (OwnZ.none_ (e := 5) (z := 1) ho2) (OwnZ.cap (e := 5) (z := 1) ho2).1 (OwnZ.cap (e := 5) (z := 1) ho2).2)
       rw [HL1.out] at HLE1
       have HK712 : Hid (Kp nob w7 w12) := Lib.hid ((HK711.out.alloc (.cells #[.int .u8 9] 5)).grown hg2 (fun j hj => .inr (HA1.out j hj)))
       clear ho2 hg2 ha2)
    | (go_at_call 30; refine HLE1.out.mono ?_; rintro e w13 ⟨rfl, k13⟩; have HK713 : Hid (Kp nob w7 w13) := Lib.hid (HK712.out.trans k13 (fun _ e => e.elim)); have HLE2 := Lib.hid (hLen X (T - 1) cX (R.b.take (T - 1)) w13 (by rw [List.length_take, HBL.out.1]; omega) (by have := (HBB.out.row.keep0 HK713.out).take (T - 1); rwa [show (bvs R.b).take (T - 1) = bvs (R.b.take (T - 1)) from (List.map_take ..).symm] at this) (by omega) HBB.out.nil (by have := HBB.out.cap; rw [HBL.out.1] at this; omega) HBB.out.mx); rw [HL2.out] at HLE2; clear k13 HLE1)
    | (refine wpList_gd (v := .slice X (T - 1) cX) (by rfl) (exec_toK 42 5 1 u8s_und byte_sizeOf (.tmp 78) (.tmp 81) rfl X T cX (T - 1) rfl (by first | rfl | (show Value.int IntKind.i64 ((T : Int) - 1) = _; rw [HTE.out])) (by omega) (by have h2 := HBB.out.cap; rw [HBL.out.1] at h2; exact h2)) ?_)
    | (go_at_call 30; refine HLE2.out.mono ?_; rintro e w14 ⟨rfl, k14⟩; have HK714 : Hid (Kp nob w7 w14) := Lib.hid (HK713.out.trans k14 (fun _ e => e.elim)))
    | fail)
  go_ret
  exact ⟨rfl, HK7.out.trans HK714.out (fun _ e => e.elim)⟩
end Go.Proofs.YtiimfhacnfdmhaaGreat.Seg
namespace Go.Proofs.YtiimfhacnfdmhaaGreat.Seg
open Go Go.RowKit Kit
open Rec (Rec good ftot recB recB_length good_bounds)
open Ideal (Ts Thing sealT derT hashT leafT rootT)
open Vault (nonce pur)
def qn : ByteArray := ⟨#[113, 117, 101, 117, 101]⟩
def keyT (ms : List UInt8) (q : Int) : Thing := derT ms (pur qn [q])
def besT (at' : List UInt8) (i n : Nat) : List UInt8 := at' ++ num8 i ++ num8 n
def stT (ms : List UInt8) (e s : Int) (at' : List UInt8) (n : Nat) (o : Ts) (i : Nat) (r : Rec) : Thing := sealT (o.val (keyT ms r.queue) 32) (nonce e (s + i)) (besT at' i n) (recB r)
def st1 (ms : List UInt8) (e s : Int) (at' : List UInt8) (n : Nat) (q : Ts × List (Int × List UInt8)) (r : Rec) : Ts × List (Int × List UInt8) :=
  ((q.1.nx (keyT ms r.queue)).nx (stT ms e s at' n q.1 q.2.length r), q.2 ++ [(r.queue, (q.1.nx (keyT ms r.queue)).val (stT ms e s at' n q.1 q.2.length r) ((recB r).length + 16))])
def stA (ms : List UInt8) (e s : Int) (at' : List UInt8) (n : Nat) (o : Ts) (rs : List Rec) : Ts × List (Int × List UInt8) := rs.foldl (st1 ms e s at' n) (o, [])
theorem stA_nil (ms : List UInt8) (e s : Int) (at' : List UInt8) (n : Nat) (o : Ts) : stA ms e s at' n o [] = (o, []) := rfl
theorem stA_snoc (ms : List UInt8) (e s : Int) (at' : List UInt8) (n : Nat) (o : Ts) (rs : List Rec) (k : Nat) (h : k < rs.length) : stA ms e s at' n o (rs.take (k + 1)) = st1 ms e s at' n (stA ms e s at' n o (rs.take k)) rs[k] := by
  unfold stA
  rw [List.take_add_one, List.getElem?_eq_getElem h, List.foldl_append]
  rfl
theorem fold_len (ms : List UInt8) (e s : Int) (at' : List UInt8) (n : Nat) : ∀ (rs : List Rec) (q : Ts × List (Int × List UInt8)), (rs.foldl (st1 ms e s at' n) q).2.length = q.2.length + rs.length
  | [], q => rfl
  | r :: rs, q => by rw [List.foldl_cons, fold_len ms e s at' n rs, List.length_cons]; simp only [st1, List.length_append, List.length_cons, List.length_nil]; omega
theorem stA_length (ms : List UInt8) (e s : Int) (at' : List UInt8) (n : Nat) (o : Ts) (rs : List Rec) : (stA ms e s at' n o rs).2.length = rs.length := by
  unfold stA; rw [fold_len]; simp
theorem fold_sub (ms : List UInt8) (e s : Int) (at' : List UInt8) (n : Nat) : ∀ (rs : List Rec) (q : Ts × List (Int × List UInt8)), q.1.sub (rs.foldl (st1 ms e s at' n) q).1
  | [], q => .refl _
  | r :: rs, q => ((q.1.sub_nx _).trans (Ts.sub_nx _ _)).trans (fold_sub ms e s at' n rs (st1 ms e s at' n q r))
theorem stA_from (ms : List UInt8) (e s : Int) (at' : List UInt8) (n : Nat) (o : Ts) (rs : List Rec) : o.sub (stA ms e s at' n o rs).1 := fold_sub ms e s at' n rs (o, [])
theorem stA_sub (ms : List UInt8) (e s : Int) (at' : List UInt8) (n : Nat) (o : Ts) (rs : List Rec) (k : Nat) : (stA ms e s at' n o (rs.take k)).1.sub (stA ms e s at' n o rs).1 := by
  have h : stA ms e s at' n o rs = (rs.drop k).foldl (st1 ms e s at' n) (stA ms e s at' n o (rs.take k)) := by
    unfold stA; rw [← List.foldl_append, List.take_append_drop]
  rw [h]; exact fold_sub ms e s at' n _ _
theorem fold_few (ms : List UInt8) (e s : Int) (at' : List UInt8) (n : Nat) : ∀ (rs : List Rec) (q : Ts × List (Int × List UInt8)) (k : Nat), q.1.few k → (rs.foldl (st1 ms e s at' n) q).1.few (k + 2 * rs.length)
  | [], q, k, h => h
  | r :: rs, q, k, h => (fold_few ms e s at' n rs (st1 ms e s at' n q r) (k + 2) ((h.nx _).nx _)).mono (by rw [List.length_cons]; omega)
theorem stA_few (ms : List UInt8) (e s : Int) (at' : List UInt8) (n : Nat) (o : Ts) (rs : List Rec) (k : Nat) (h : o.few k) : (stA ms e s at' n o rs).1.few (k + 2 * rs.length) := fold_few ms e s at' n rs (o, []) k h
def lf1 (q : Ts × List (List UInt8)) (b : List UInt8) : Ts × List (List UInt8) := (q.1.nx (leafT b), q.2 ++ [q.1.val (leafT b) 32])
def lfA (o : Ts) (bs : List (List UInt8)) : Ts × List (List UInt8) := bs.foldl lf1 (o, [])
theorem lfA_nil (o : Ts) : lfA o [] = (o, []) := rfl
theorem lfA_snoc (o : Ts) (bs : List (List UInt8)) (k : Nat) (h : k < bs.length) : lfA o (bs.take (k + 1)) = lf1 (lfA o (bs.take k)) bs[k] := by
  unfold lfA
  rw [List.take_add_one, List.getElem?_eq_getElem h, List.foldl_append]
  rfl
theorem lfold_len : ∀ (bs : List (List UInt8)) (q : Ts × List (List UInt8)), (bs.foldl lf1 q).2.length = q.2.length + bs.length
  | [], q => rfl
  | b :: bs, q => by rw [List.foldl_cons, lfold_len bs, List.length_cons]; simp only [lf1, List.length_append, List.length_cons, List.length_nil]; omega
theorem lfA_length (o : Ts) (bs : List (List UInt8)) : (lfA o bs).2.length = bs.length := by unfold lfA; rw [lfold_len]; simp
theorem lfold_sub : ∀ (bs : List (List UInt8)) (q : Ts × List (List UInt8)), q.1.sub (bs.foldl lf1 q).1
  | [], q => .refl _
  | b :: bs, q => (q.1.sub_nx _).trans (lfold_sub bs (lf1 q b))
theorem lfA_from (o : Ts) (bs : List (List UInt8)) : o.sub (lfA o bs).1 := lfold_sub bs (o, [])
theorem lfold_few : ∀ (bs : List (List UInt8)) (q : Ts × List (List UInt8)) (k : Nat), q.1.few k → (bs.foldl lf1 q).1.few (k + bs.length)
  | [], q, k, h => h
  | b :: bs, q, k, h => (lfold_few bs (lf1 q b) (k + 1) (h.nx _)).mono (by rw [List.length_cons]; omega)
theorem lfA_few (o : Ts) (bs : List (List UInt8)) (k : Nat) (h : o.few k) : (lfA o bs).1.few (k + bs.length) := lfold_few bs (o, []) k h
theorem lfold_32 : ∀ (bs : List (List UInt8)) (q : Ts × List (List UInt8)), q.1.long → (∀ d ∈ q.2, d.length = 32) → ∀ d ∈ (bs.foldl lf1 q).2, d.length = 32
  | [], q, h, hd => hd
  | b :: bs, q, h, hd => lfold_32 bs (lf1 q b) (h.nx _) (fun d hm => by
    rcases List.mem_append.1 hm with hm | hm
    · exact hd d hm
    · rw [List.mem_singleton.1 hm]; exact h.len _ (.inl rfl))
theorem lfA_32 (o : Ts) (bs : List (List UInt8)) (h : o.long) : ∀ d ∈ (lfA o bs).2, d.length = 32 := lfold_32 bs (o, []) h (fun d hm => by cases hm)
def rtA (o : Ts) (bs : List (List UInt8)) : List UInt8 × Ts := rootT (lfA o bs).1 (lfA o bs).2
theorem rtA_eq (o : Ts) (bs : List (List UInt8)) : rtA o bs = rootT (lfA o bs).1 (lfA o bs).2 := rfl
theorem rtA_sub (o : Ts) (bs : List (List UInt8)) : o.sub (rtA o bs).2 := (lfA_from o bs).trans (Ideal.rootT_sub _ _)
theorem rtA_few (o : Ts) (bs : List (List UInt8)) (k : Nat) (h : o.few k) : (rtA o bs).2.few (k + 2 * bs.length + 1) := by
  have := Ideal.rootT_few _ (lfA o bs).2 _ (lfA_few o bs k h)
  rw [lfA_length] at this
  exact this.mono (by omega)
theorem rtA_length (o : Ts) (bs : List (List UInt8)) (h : o.long) : (rtA o bs).1.length = 32 := Ideal.rootT_length _ _ (h.sub (lfA_from o bs)) (lfA_32 o bs h)
attribute [irreducible] rtA
def parB (ps : List (Int × List UInt8)) : List UInt8 := ps.flatMap fun p => num8 p.1 ++ textB (str p.2)
theorem parB_snoc (ps : List (Int × List UInt8)) (k : Nat) (h : k < ps.length) : parB (ps.take (k + 1)) = parB (ps.take k) ++ num8 ps[k].1 ++ textB (str ps[k].2) := by
  unfold parB
  rw [List.take_add_one, List.getElem?_eq_getElem h, List.flatMap_append]
  simp [List.append_assoc]
theorem parB_append (a b : List (Int × List UInt8)) : parB (a ++ b) = parB a ++ parB b := by simp [parB]
def frB (T : Nat) (ps : List (Int × List UInt8)) (root : List UInt8) : List UInt8 := num8 T ++ num8 ps.length ++ parB ps ++ root
def hdA (o : Ts) (at' : List UInt8) (T : Nat) (ps : List (Int × List UInt8)) : Packed :=
  ⟨(rtA o (ps.map (·.2))).2.nx (hashT (at' ++ frB T ps (rtA o (ps.map (·.2))).1)), frB T ps (rtA o (ps.map (·.2))).1, (rtA o (ps.map (·.2))).2.val (hashT (at' ++ frB T ps (rtA o (ps.map (·.2))).1)) 32, 0⟩
theorem hdA_o (o : Ts) (at' : List UInt8) (T : Nat) (ps : List (Int × List UInt8)) : (hdA o at' T ps).o = (rtA o (ps.map (·.2))).2.nx (hashT (at' ++ frB T ps (rtA o (ps.map (·.2))).1)) := rfl
theorem hdA_b (o : Ts) (at' : List UInt8) (T : Nat) (ps : List (Int × List UInt8)) : (hdA o at' T ps).b = frB T ps (rtA o (ps.map (·.2))).1 := rfl
theorem hdA_h (o : Ts) (at' : List UInt8) (T : Nat) (ps : List (Int × List UInt8)) : (hdA o at' T ps).h = (rtA o (ps.map (·.2))).2.val (hashT (at' ++ frB T ps (rtA o (ps.map (·.2))).1)) 32 := rfl
theorem hdA_e (o : Ts) (at' : List UInt8) (T : Nat) (ps : List (Int × List UInt8)) : (hdA o at' T ps).e = 0 := rfl
attribute [irreducible] hdA
def bad (lim : Nat) (e s : Int) : Nat → Nat → List Rec → Nat
  | _, _, [] => 0
  | i, size, r :: rs => if perr1 lim e s i size r = 0 then bad lim e s (i + 1) (size + 63 + r.body.length) rs + 1 else 0
theorem bad_cons (lim : Nat) (e s : Int) (i size : Nat) (r : Rec) (rs : List Rec) : bad lim e s i size (r :: rs) = if perr1 lim e s i size r = 0 then bad lim e s (i + 1) (size + 63 + r.body.length) rs + 1 else 0 := rfl
def end1 (ms : List UInt8) (o : Ts) (size : Nat) (r : Rec) : Ts := if good r = true ∧ size + 63 + r.body.length ≤ 16384 then o.nx (keyT ms r.queue) else o
def lft (ms : List UInt8) (e s : Int) (at' : List UInt8) (o : Ts) (rs : List Rec) (k : Nat) : Ts :=
  if h : k < rs.length then end1 ms (stA ms e s at' rs.length o (rs.take k)).1 (ftot (rs.take k)) rs[k] else o
theorem lft_at (ms : List UInt8) (e s : Int) (at' : List UInt8) (o : Ts) (rs : List Rec) (k : Nat) (h : k < rs.length) : lft ms e s at' o rs k = end1 ms (stA ms e s at' rs.length o (rs.take k)).1 (ftot (rs.take k)) rs[k] := dif_pos h
def pk (o : Ts) (ms : List UInt8) (lim : Nat) (e s : Int) (at' : List UInt8) (rs : List Rec) : Packed :=
  if rs = [] then ⟨o, [], at', 1⟩
  else if perrs lim e s 0 48 rs = 0 then hdA (stA ms e s at' rs.length o rs).1 at' (ftot rs) (stA ms e s at' rs.length o rs).2
  else ⟨lft ms e s at' o rs (bad lim e s 0 48 rs), [], Ideal.z32, perrs lim e s 0 48 rs⟩
theorem pk_nil (o : Ts) (ms : List UInt8) (lim : Nat) (e s : Int) (at' : List UInt8) : pk o ms lim e s at' [] = ⟨o, [], at', 1⟩ := if_pos rfl
theorem pk_yes (o : Ts) (ms : List UInt8) (lim : Nat) (e s : Int) (at' : List UInt8) (rs : List Rec) (hn : rs ≠ []) (h : perrs lim e s 0 48 rs = 0) : pk o ms lim e s at' rs = hdA (stA ms e s at' rs.length o rs).1 at' (ftot rs) (stA ms e s at' rs.length o rs).2 := by
  rw [pk, if_neg hn, if_pos h]
theorem pk_no (o : Ts) (ms : List UInt8) (lim : Nat) (e s : Int) (at' : List UInt8) (rs : List Rec) (hn : rs ≠ []) (h : perrs lim e s 0 48 rs ≠ 0) : pk o ms lim e s at' rs = ⟨lft ms e s at' o rs (bad lim e s 0 48 rs), [], Ideal.z32, perrs lim e s 0 48 rs⟩ := by
  rw [pk, if_neg hn, if_neg h]
attribute [irreducible] pk stA lfA parB
end Go.Proofs.YtiimfhacnfdmhaaGreat.Seg
namespace Go.Proofs.YtiimfhacnfdmhaaGreat.Merkle
open Go Go.RowKit Kit
open Ideal (half half_pow)
theorem bitLen_bounds (k : Nat) : ∀ x : Nat, x ≠ 0 → x < 2 ^ k → k ≤ 64 → ∃ e, Lib.bitLen x = e + 1 ∧ e < k ∧ 2 ^ e ≤ x ∧ x < 2 * 2 ^ e := by
  induction k with
  | zero => intro x h0 h; omega
  | succ k ih =>
    intro x h0 h hk
    have h64 : x < 2 ^ 64 := Nat.lt_of_lt_of_le h (Nat.pow_le_pow_right (by decide) hk)
    rw [Lib.bitLen_half x h0 h64]
    by_cases h1 : x / 2 = 0
    · rw [h1]
      exact ⟨0, by rfl, by omega, by omega, by omega⟩
    · obtain ⟨e, e1, e2, e3, e4⟩ := ih (x / 2) h1 (by rw [Nat.pow_succ] at h; omega) (by omega)
      exact ⟨e + 1, by rw [e1]; omega, by omega, by rw [Nat.pow_succ]; omega, by rw [Nat.pow_succ]; omega⟩
set_option maxHeartbeats 4000000 in
set_option maxRecDepth 100000 in
theorem len64_any (x : Int) (w : World) (h0 : 0 ≤ x) (h1 : x ≤ 65535) :
    Calls Tryz.prog 113 #[.int .u64 x] w fun e w' => e = .returned (.int .i64 (Lib.bitLen x.toNat)) ∧ w' = w := by
  have g1 : x < 4294967296 := by omega
  have g2 : x < 65536 := by omega
  have H := Lib.hid (And.intro h0 h1)
  have q : ∀ w, (Instr.index 9 (.string Lib.len8tab) (.int .u8 (x / 256))).run Tryz.prog w = .ok (.int .u8 (Lib.len8 (x / 256))) w := fun w => Lib.run_index_len8tab w _ .u8 (x / 256) (by kernel_rfl) (by omega) (by omega)
  clear h0 h1
  go_enter Tryz.func113, Tryz.ntmps113
  go_wp2
  all_goals try (exfalso; omega)
  all_goals (go_ret; refine ⟨congrArg Ending.returned (congrArg (Value.int IntKind.i64) ?_), rfl⟩; have h0 := H.out.1; have h1 := H.out.2)
  all_goals first
    | (rw [Lib.len8_of (x / 256) (by omega) (by omega)]
       have e : (x / 256).toNat = x.toNat / 256 := by omega
       have l := Lib.bitLen_le8' (x / 256) (by omega) (by omega)
       have s := Lib.bitLen_shift8 x.toNat (by omega) (by omega)
       rw [e] at l ⊢
       unfold wrap64
       omega)
    | (rw [Lib.len8_of (x % 256) (by omega) (by omega)]
       have e : (x % 256).toNat = x.toNat := by omega
       have l := Lib.bitLen_le8' (x % 256) (by omega) (by omega)
       rw [e] at l ⊢
       unfold wrap64
       omega)
set_option maxRecDepth 100000 in
theorem len_any (x : Int) (w : World) (h0 : 0 ≤ x) (h1 : x ≤ 65535) :
    Calls Tryz.prog 109 #[.int .u64 x] w fun e w' => e = .returned (.int .i64 (Lib.bitLen x.toNat)) ∧ w' = w := by
  go_enter Tryz.func109, Tryz.ntmps109
  go_wp2_with (go_at_call 113; refine (len64_any x _ h0 h1).mono ?_; rintro e w' ⟨rfl, rfl⟩)
  go_ret
  exact ⟨rfl, rfl⟩
set_option maxRecDepth 100000 in
theorem firstHalf_any (n : Nat) (w : World) (h2 : 2 ≤ n) (hn : n ≤ 65536) :
    Calls Tryz.prog 101 #[.int .i64 n] w fun e w' => e = .returned (.int .i64 (half n : Nat)) ∧ w' = w := by
  obtain ⟨e, e1, e2, e3, e4⟩ := bitLen_bounds 16 (n - 1) (by omega) (by omega) (by decide)
  have hp := half_pow n e (by omega) (by omega)
  have h16 : e = 0 ∨ e = 1 ∨ e = 2 ∨ e = 3 ∨ e = 4 ∨ e = 5 ∨ e = 6 ∨ e = 7 ∨ e = 8 ∨ e = 9 ∨ e = 10 ∨ e = 11 ∨ e = 12 ∨ e = 13 ∨ e = 14 ∨ e = 15 := by omega
  have HP := Lib.hid hp
  have HL : Hid (∀ w, Calls Tryz.prog 109 #[.int .u64 ((n : Int) - 1)] w fun r w' => r = .returned (.int .i64 ((e : Int) + 1)) ∧ w' = w) := Lib.hid (fun w => by
    have := len_any ((n : Int) - 1) w (by omega) (by omega)
    rw [show ((n : Int) - 1).toNat = n - 1 by omega, e1] at this
    exact this)
  clear hp e1 e2 e3 e4
  go_enter Tryz.func101, Tryz.ntmps101
  go_wp2_with (first
    | (go_at_call 109; refine (HL.out _).mono ?_; rintro r w' ⟨rfl, rfl⟩)
    | fail)
  rw [HP.out]
  rcases h16 with rfl | rfl | rfl | rfl | rfl | rfl | rfl | rfl | rfl | rfl | rfl | rfl | rfl | rfl | rfl | rfl <;> (go_wp2; go_ret; exact ⟨by first | rfl | kernel_rfl, rfl⟩)
end Go.Proofs.YtiimfhacnfdmhaaGreat.Merkle
