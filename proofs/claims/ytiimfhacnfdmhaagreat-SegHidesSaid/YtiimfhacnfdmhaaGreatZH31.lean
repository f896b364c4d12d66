/- Lemmas: SegF SegBack SegHides SegPh SegHidesW. -/
import Derived.Test.YtiimfhacnfdmhaaGreatZH26
import Derived.Test.YtiimfhacnfdmhaaGreatZH27
import Derived.Test.YtiimfhacnfdmhaaGreatZH30
import Derived.Test.YtiimfhacnfdmhaaGreatZH07
import Derived.Test.YtiimfhacnfdmhaaGreatZH05
set_option linter.unusedVariables false
set_option linter.unusedSimpArgs false
namespace Go.Proofs.YtiimfhacnfdmhaaGreat.Seg
open Go Go.RowKit Kit
open Rec (Rec good ftot fsec split Rrow Sr SrOk rcells rec_under rec_size great_any greatR)
open Ideal (Ts Thing Arg Args Ans zc zc_run zc_length zc_eq z32)
open Vault
structure Pkd [Inhabited Sha.ShaTab] [Inhabited Field.SqTab] (w : World) (c : Vc) (x : Vt) (R : Packed) (w' : World) (x2 : Vt) (X : Option Addr) (cX : Nat) : Prop where
  q : Vq w c x w' x2
  o_ : x2.o = R.o
  a : Ans w w' x2.P X cX R.b
end Go.Proofs.YtiimfhacnfdmhaaGreat.Seg
namespace Go.Proofs.YtiimfhacnfdmhaaGreat.Seg
open Go Go.RowKit Kit
open Rec (Rec good ftot fsec split Rrow Sr SrOk rcells rec_under rec_size great_any greatR fSame)
open Ideal (Ts Thing Arg Args Ans zc zc_run zc_length zc_eq z32)
open Vault
open Field (Sq)
theorem eq32 (xs ys : List UInt8) (hx : xs.length = 32) (hy : ys.length = 32) (w : World) : (Op.equalIn 10000 32 (.agg (bvs xs).toArray) (.agg (bvs ys).toArray)).run Tryz.prog w = .ok (xs == ys) w :=
  run_equalIn_bytes w 9998 32 5 32 rarr_under (by kernel_rfl) (fun _ => by kernel_rfl) xs ys hx hy
theorem u8s_und : Tryz.prog.underlying 42 = some (.slice 5) := by kernel_rfl
theorem exec_eq32 {a : Act} {o : Oper} {w : World} (i j : Operand) (u : TypeId) (l m : List UInt8) (hl : l.length = 32) (hm : m.length = 32) (ho : o.op = .binOp .eql 32 i j u) (hx : a.eval i = .agg (bvs l).toArray) (hy : a.eval j = .agg (bvs m).toArray) : (execOp a.eval o).run Tryz.prog w = .ok (.value (.bool (decide (l = m)))) w := by
  have hg : (eqGuard .eql 32 i j (.agg (bvs l).toArray) (.agg (bvs m).toArray)).run Tryz.prog w = .ok () w := by
    unfold eqGuard; kernel_rfl
  have hn : (binOp .eql 32 (.agg (bvs l).toArray) (.agg (bvs m).toArray)).run Tryz.prog w = .ok (.bool (decide (l = m))) w := by
    have h : (Op.equal 32 (.agg (bvs l).toArray) (.agg (bvs m).toArray)).run Tryz.prog w = .ok (l == m) w := eq32 l m hl hm w
    have hd : (l == m) = decide (l = m) := by rw [Bool.eq_iff_iff]; simp
    simp only [binOp]
    simp [h, hd, Result.andThen]
  unfold execOp
  simp only [ho, hx, hy, Sem.run_bind, hg, hn, Result.andThen_ok, Sem.run_pure]
theorem kept_any [Inhabited Sha.ShaTab] [Inhabited Field.SqTab] (real : Bool) (at' : List UInt8) (w : World) (h : at'.length = 32) (ht : Sha.Tabs w) (hs : Sq w) (hg : 2 < w.heap.size) :
    Calls Tryz.prog 27 #[.bool real, .agg (bvs at').toArray] w fun e w' => ∃ c x o, e = .returned (.pointer (some ⟨c.v, 0, none⟩)) ∧ NewV w w' o at' 1099511627776 c x ∧ o.long ∧ o.few 0 := by
  cases real with
  | true =>
    refine (kept_real at' w h ht hs hg).mono ?_
    rintro e w' ⟨c, x, rfl, hn⟩
    exact ⟨c, x, _, rfl, hn, rl_long, trivial⟩
  | false =>
    refine (kept_dream at' w h).mono ?_
    rintro e w' ⟨c, x, rfl, hn⟩
    exact ⟨c, x, _, rfl, hn, trivial, Nat.le_refl _⟩
end Go.Proofs.YtiimfhacnfdmhaaGreat.Seg
namespace Go.Proofs.YtiimfhacnfdmhaaGreat.Seg
open Go Go.RowKit Kit
open Rec (Rec good ftot fsec split Rrow Sr SrOk rcells rec_under rec_size great_any greatR rec_info recs_und rcs_len rcs_one exec_recOne rcells_one)
open Ideal (Ts Thing Arg Args Ans zc zc_run zc_length zc_eq z32)
open Vault
def twn (r : Rec) (o : List UInt8) : Rec := { r with body := o }
def Twins (rs qs : List Rec) : Prop := qs.length = rs.length ∧ ∀ (i : Nat) (r q : Rec), rs[i]? = some r → qs[i]? = some q → q = twn r q.body ∧ q.body.length = r.body.length
def HidC (pk : PackF) : Prop := ∀ (ms : List UInt8) (lim : Nat) (e s : Int) (at' : List UInt8) (rs qs : List Rec), Twins rs qs →
  (pk (.dream []) ms lim e s at' rs).b = (pk (.dream []) ms lim e s at' qs).b ∧ (pk (.dream []) ms lim e s at' rs).h = (pk (.dream []) ms lim e s at' qs).h ∧ (pk (.dream []) ms lim e s at' rs).e = (pk (.dream []) ms lim e s at' qs).e
def three : List UInt8 := 3 :: List.replicate 31 0
theorem three_len : three.length = 32 := rfl
theorem three_build (w : World) : (Instr.build 32 #[(0, .int .u8 3)]).run Tryz.prog w = .ok (.agg (bvs three).toArray) w := by kernel_rfl
theorem exec_eqStr {a : Act} {o : Oper} {w : World} (x y : Operand) (s t : List UInt8) (ho : o.op = .binOp .eql 9 x y 9) (hx : a.eval x = .string (str s)) (hy : a.eval y = .string (str t)) :
    (execOp a.eval o).run Tryz.prog w = .ok (.value (.bool (decide (s = t)))) w := by
  unfold execOp
  simp only [ho, hx, hy]
  go_simp
  simp only [str_toList]
  by_cases h : s = t <;> simp [h]
theorem exec_bs {a : Act} {o : Oper} {w : World} (x : Operand) (A : Option Addr) (n c : Nat) (l : List UInt8) (ho : o.op = .convert 42 9 x) (hx : a.eval x = .slice A n c) (hn : l.length = n) (hr : Row w A (bvs l)) :
    (execOp a.eval o).run Tryz.prog w = .ok (.value (.string (str l))) w := by
  have h := run_bytes_str (P := Tryz.prog) w 42 9 5 u8s_und (by kernel_rfl) (by kernel_rfl) A n c l hn hr
  unfold execOp
  simp [ho, hx, h, Result.andThen]
theorem twins_snoc {rs qs : List Rec} {k : Nat} (hk : k < rs.length) (h : Twins (rs.take k) qs) (o : List UInt8) (ho : o.length = rs[k].body.length) : Twins (rs.take (k + 1)) (qs ++ [twn rs[k] o]) := by
  have hq : qs.length = k := by rw [h.1, List.length_take]; omega
  refine ⟨by rw [List.length_append, hq, List.length_take]; simp; omega, fun i r q hr hq2 => ?_⟩
  by_cases hi : i < k
  · rw [List.getElem?_append_left (by omega)] at hq2
    refine h.2 i r q ?_ hq2
    rw [List.getElem?_take] at hr ⊢
    rw [if_pos (by omega)] at hr
    rw [if_pos hi]; exact hr
  · rw [List.getElem?_append_right (by omega), hq] at hq2
    rw [List.getElem?_take] at hr
    split at hr
    · have hik : i = k := by omega
      subst hik
      rw [Nat.sub_self] at hq2
      have e1 : twn rs[i] o = q := by simpa using hq2
      have e2 : rs[i] = r := by rw [List.getElem?_eq_getElem hk] at hr; exact Option.some.inj hr
      subst e1; subst e2
      exact ⟨rfl, ho⟩
    · cases hr
set_option maxHeartbeats 4000000 in
set_option maxRecDepth 100000 in
theorem hides_walk [Inhabited Sha.ShaTab] [Inhabited Field.SqTab] (pk : PackF) (hP : PackC pk) (hS : PackS pk) (hH : HidC pk) (hSec : SectorsC) (hLen : LengthC) (A : Option Addr) (n c : Nat) (rs : List Rec) (B : Option Addr) (m d : Nat) (os : List (List UInt8)) (w : World)
    (hl : rs.length = n) (hn : A = none → c = 0) (hr : Row w A (rs.flatMap rcells)) (hc : n ≤ c) (hm : c ≤ maxLen) (hol : os.length = m) (hor : Row w B (os.map fun s => .string (str s))) (hod : m ≤ d) (hom : d ≤ maxLen) (hob : ∀ s ∈ os, s.length ≤ 140737488355328) :
    Calls Tryz.prog 7 #[.slice A n c, .slice B m d] w fun e w' => e = .returned (.bool true) ∧ Kp nob w w' := by
  have HR := Lib.hid (show Rrow w A rs from hr)
  have HLN := Lib.hid hl; have HC := Lib.hid hc; have HM := Lib.hid hm
  have HO := Lib.hid (And.intro hol (And.intro hor hob))
  have hmx : m ≤ maxLen := Nat.le_trans hod hom
  unfold maxLen at hmx
  clear hr hl hn hm hc hol hor hod hom hob
  have HAL := Lib.hid (fun w => alive_yes pk hP hS hSec hLen w)
  have hgr := fun w' (k : Kp nob w w') => great_any A n c rs 60 w' HLN.out (HR.out.keep0 k) (by have := HC.out; have := HM.out; omega)
  cases hg : greatR rs 60 with
  | true =>
    rw [hg] at hgr
    go_enter Tryz.func7, Tryz.ntmps7
    go_wp2_with fail
    refine (HAL.out _).mono ?_
    rintro e w1 ⟨rfl, k1⟩
    go_wp2_with fail
    refine (hgr w1 k1).mono ?_
    rintro e w2 ⟨rfl, k2⟩
    go_wp2
    go_ret
    exact ⟨rfl, k1.trans k2 (fun _ e => e.elim)⟩
  | false =>
  rw [hg] at hgr
  obtain ⟨h60, hbd⟩ := great_no (most := 60) HLN.out hg
  have H60 := Lib.hid h60; have HBD := Lib.hid hbd
  clear hg hbd
  go_enter Tryz.func7, Tryz.ntmps7
  go_wp2_with fail
  refine (HAL.out _).mono ?_
  rintro e w1 ⟨rfl, k1⟩
  go_wp2_with fail
  refine (hgr w1 k1).mono ?_
  rintro e w2 ⟨rfl, k2⟩
  have HK2 := Lib.hid (k1.trans k2 (fun _ e => e.elim))
  clear hgr k1 k2
  by_cases hmn : m < n
  · go_wp2
    go_ret
    exact ⟨rfl, HK2.out⟩
  have hnm : n ≤ m := by omega
  have hd1 : decide (m < n) = false := decide_eq_false hmn
  have hd2 : decide ((m : Int) < (n : Int)) = false := decide_eq_false (by omega)
  clear hmn
  go_wp2
  go_loopw [5, 29] (fun tw i wr => ∃ k : Nat, k ≤ n ∧ i = .int .i64 k ∧ ∃ (Z : Option Addr) (cz : Nat) (qs : List Rec), tw = .slice Z k cz ∧ OwnK 6 34 wr Z k cz (qs.flatMap rcells) ∧ Twins (rs.take k) qs ∧ (∀ q ∈ qs, q.body.length ≤ 4096) ∧ Kp nob w wr ∧ ∀ j, ab Z = some j → w.heap.size ≤ j)
    (fun _ i _ => n - (intOf i).toNat)
  case atStart => exact ⟨0, Nat.zero_le _, rfl, none, 0, [], rfl, by simpa using OwnK.nil 6 34 w2, ⟨rfl, fun i r q h => by simp at h⟩, (fun q hq => by cases hq), HK2.out, fun j e => by cases e⟩
  case round =>
    obtain ⟨k, hk, rfl, Z, cz, qs, rfl, hown, htw, hqb, kr, hz⟩ := hrel
    by_cases hlt : k < n
    · have hk2 : k < rs.length := by rw [HLN.out]; exact hlt
      have hk3 : k < os.length := by rw [HO.out.1]; omega
      obtain ⟨bb, oo, rfl, hbb, hc0, hc1, hc2, hc3, hc4, hc5⟩ := (HR.out.keep0 kr).at_ (i := k) hk2
      obtain ⟨bo, xo, rfl, hbo, hco⟩ := (HO.out.2.1.keep0 kr).at_ (i := k) (by simpa using hk3)
      have hob := HO.out.2.2 os[k] (List.getElem_mem hk3)
      rw [List.getElem_map] at hco
      have hbl := HBD.out (rs[k]'hk2) (List.getElem_mem hk2)
      obtain ⟨p, hpe⟩ : ∃ p, p = rs[k]'hk2 := ⟨_, rfl⟩
      obtain ⟨o, hoe⟩ : ∃ o, o = os[k] := ⟨_, rfl⟩
      rw [← hpe] at hc0 hc1 hc2 hc3 hc4 hc5 hbl
      rw [← hoe] at hco hob
      have HTS := Lib.hid (fun (h : o.length = p.body.length) => twins_snoc hk2 htw o (by rw [h, hpe]))
      rw [← hpe] at HTS
      have HQL : Hid (qs.length = k) := Lib.hid (by have := htw.1; rw [List.length_take] at this; omega)
      have HQB := Lib.hid hqb
      have HOWN := Lib.hid hown; have HKR := Lib.hid kr; have HZ := Lib.hid hz
      have h6 := H60.out
      clear hpe hoe htw hqb hown kr hz hk2 hk3
      go_wp2
      obtain ⟨wa, hwa⟩ : ∃ wa, wa = wr.alloc (.cells #[.int .i64 p.kind, .int .i64 p.queue, .int .i64 p.id, .int .i64 p.num, .int .i64 p.wait, .string (str p.body)] 34) := ⟨_, rfl⟩
      have HBW := Lib.hid (show Blk wa wr.heap.size 34 (rcells p) by rw [hwa]; exact Blk.new' (by simp) rfl)
      have HKA := Lib.hid (show Kp nob wr wa by rw [hwa]; exact (Kp.refl nob wr).alloc _)
      have HCO : Hid (∀ w', Kp nob wa w' → w'.cell? ⟨bo, xo + k, none⟩ = some (.string (str o))) := Lib.hid (fun w' k' => by rw [(HKA.out.trans k' (fun _ e => e.elim)).cell (p := ⟨bo, xo + k, none⟩) hbo (fun e => e)]; exact hco)
      rw [← hwa]
      clear hwa hc0 hc1 hc2 hc3 hc4 hc5 hco
      refine reg_begin (fun w' => Kp nob wa w') (by kernel_rfl) ((Kp.refl nob wa).drew) (fun hS0 => ?_)
      refine reg_take (v := .pointer (some ⟨wr.heap.size, 5, none⟩)) 0 (some 34) rfl rfl (by kernel_rfl) (by kernel_rfl) (by kernel_rfl) (by rfl) hS0 (fun w' hw => by go_simp) ?_
      simp only [Act.put, List.setIfInBounds_toArray, List.set_cons_zero, List.set_cons_succ]
      refine reg_take (v := .string (str p.body)) 1 (some 35) rfl rfl (by kernel_rfl) (by kernel_rfl) (by kernel_rfl) (by rfl) hS0 (fun w' hw => by have hc : w'.cell? ⟨wr.heap.size, 5, none⟩ = some (.string (str p.body)) := (HBW.out.keep hw (fun e => e)).cell 5; go_simp) ?_
      simp only [Act.put, List.setIfInBounds_toArray, List.set_cons_zero, List.set_cons_succ]
      refine reg_take (v := .int .i64 (p.body.length : Nat)) 2 (some 36) rfl rfl (by kernel_rfl) (by kernel_rfl) (by kernel_rfl) (by rfl) hS0 (fun w' hw => by go_simp) ?_
      simp only [Act.put, List.setIfInBounds_toArray, List.set_cons_zero, List.set_cons_succ]
      refine reg_take (v := .slice (some ⟨bo, xo, none⟩) m d) 3 (some 37) rfl rfl (by kernel_rfl) (by kernel_rfl) (by kernel_rfl) (by rfl) hS0 (fun w' hw => by go_simp) ?_
      simp only [Act.put, List.setIfInBounds_toArray, List.set_cons_zero, List.set_cons_succ]
      refine reg_take (v := .int .i64 k) 4 (some 38) rfl rfl (by kernel_rfl) (by kernel_rfl) (by kernel_rfl) (by rfl) hS0 (fun w' hw => by go_simp) ?_
      simp only [Act.put, List.setIfInBounds_toArray, List.set_cons_zero, List.set_cons_succ]
      have hkm : k < m := by omega
      refine reg_take (v := .pointer (some ⟨bo, xo + k, none⟩)) 5 (some 39) rfl rfl (by kernel_rfl) (by kernel_rfl) (by kernel_rfl) (by rfl) hS0 (fun w' hw => by go_simp) ?_
      simp only [Act.put, List.setIfInBounds_toArray, List.set_cons_zero, List.set_cons_succ]
      refine reg_take (v := .string (str o)) 6 (some 40) rfl rfl (by kernel_rfl) (by kernel_rfl) (by kernel_rfl) (by rfl) hS0 (fun w' hw => by have hc := HCO.out w' hw; go_simp) ?_
      simp only [Act.put, List.setIfInBounds_toArray, List.set_cons_zero, List.set_cons_succ]
      refine reg_take (v := .int .i64 (o.length : Nat)) 7 (some 41) rfl rfl (by kernel_rfl) (by kernel_rfl) (by kernel_rfl) (by rfl) hS0 (fun w' hw => by go_simp) ?_
      simp only [Act.put, List.setIfInBounds_toArray, List.set_cons_zero, List.set_cons_succ]
      refine reg_take (v := .bool ((p.body.length : Int) != (o.length : Int))) 8 (some 42) rfl rfl (by kernel_rfl) (by kernel_rfl) (by kernel_rfl) (by rfl) hS0 (fun w' hw => by go_simp) ?_
      simp only [Act.put, List.setIfInBounds_toArray, List.set_cons_zero, List.set_cons_succ]
      refine reg_end (by kernel_rfl) ?_
      obtain ⟨wd, hwd⟩ : ∃ wd, wd = wa.drew := ⟨_, rfl⟩
      rw [← hwd] at hS0 ⊢
      have HKD := Lib.hid (HKR.out.trans (HKA.out.trans hS0 (fun _ e => e.elim)) (fun _ e => e.elim))
      have HKRD := Lib.hid (HKA.out.trans hS0 (fun _ e => e.elim))
      have HBD2 := Lib.hid (HBW.out.keep hS0 (fun e => e))
      have hco := HCO.out wd hS0
      clear hwd hS0 HCO HBW HKA
      by_cases hlen : o.length = p.body.length
      case neg =>
        have hb : ((p.body.length : Int) != (o.length : Int)) = true := by simp; omega
        rw [hb]
        go_wp2
        go_ret
        exact ⟨rfl, HKD.out⟩
      have hb : ((p.body.length : Int) != (o.length : Int)) = false := by simp; omega
      rw [hb]
      have HT2 := Lib.hid (HTS.out hlen)
      have HOL := Lib.hid hlen
      have hfz : wd.frozen? ⟨wr.heap.size, 5, none⟩ = false := HBD2.out.frozen 5
      have hc5 : wd.cell? ⟨wr.heap.size, 5, none⟩ = some (.string (str p.body)) := HBD2.out.cell 5
      have HBS := Lib.hid (show Blk (wd.setCell ⟨wr.heap.size, 5, none⟩ (.string (str o))) wr.heap.size 34 (rcells (twn p o)) from HBD2.out.set_ 5 (.string (str o)))
      have s0 : (wd.setCell ⟨wr.heap.size, 5, none⟩ (.string (str o))).cell? ⟨wr.heap.size, 0, none⟩ = some (.int .i64 p.kind) := HBS.out.cell 0
      have s1 : (wd.setCell ⟨wr.heap.size, 5, none⟩ (.string (str o))).cell? ⟨wr.heap.size, 1, none⟩ = some (.int .i64 p.queue) := HBS.out.cell 1
      have s2 : (wd.setCell ⟨wr.heap.size, 5, none⟩ (.string (str o))).cell? ⟨wr.heap.size, 2, none⟩ = some (.int .i64 p.id) := HBS.out.cell 2
      have s3 : (wd.setCell ⟨wr.heap.size, 5, none⟩ (.string (str o))).cell? ⟨wr.heap.size, 3, none⟩ = some (.int .i64 p.num) := HBS.out.cell 3
      have s4 : (wd.setCell ⟨wr.heap.size, 5, none⟩ (.string (str o))).cell? ⟨wr.heap.size, 4, none⟩ = some (.int .i64 p.wait) := HBS.out.cell 4
      have s5 : (wd.setCell ⟨wr.heap.size, 5, none⟩ (.string (str o))).cell? ⟨wr.heap.size, 5, none⟩ = some (.string (str o)) := HBS.out.cell 5
      have HKS : Hid (Kp nob w (wd.setCell ⟨wr.heap.size, 5, none⟩ (.string (str o)))) := Lib.hid (HKD.out.trans ((Kp.refl (fun i => i = wr.heap.size) wd).setCell (p := ⟨wr.heap.size, 5, none⟩) (.inl rfl) _) (fun i e => .inr (by have e : i = wr.heap.size := e; have := HKR.out.size; omega)))
      have HOS : Hid (OwnK 6 34 (wd.setCell ⟨wr.heap.size, 5, none⟩ (.string (str o))) Z k cz (qs.flatMap rcells)) := Lib.hid (HOWN.out.keep (HKRD.out.trans ((Kp.refl (fun i => i = wr.heap.size) wd).setCell (p := ⟨wr.heap.size, 5, none⟩) (.inl rfl) _) (fun i e => .inr (by have e : i = wr.heap.size := e; omega))) (fun _ _ e => e))
      have hss : (wd.setCell ⟨wr.heap.size, 5, none⟩ (.string (str o))).heap.size = wd.heap.size := by simp [World.setCell]
      have HROW : Hid (Row ((wd.setCell ⟨wr.heap.size, 5, none⟩ (.string (str o))).alloc (.cells #[.int .i64 p.kind, .int .i64 p.queue, .int .i64 p.id, .int .i64 p.num, .int .i64 p.wait, .string (str o)] 34)) (some ⟨wd.heap.size, 0, none⟩) (rcells (twn p o))) := Lib.hid (by
        have := row_new (wd.setCell ⟨wr.heap.size, 5, none⟩ (.string (str o))) (rcells (twn p o)) 34
        rw [hss] at this
        exact this)
      have HSS := Lib.hid hss
      obtain ⟨ir, hr1, hr2, hr3, hr4⟩ := rec_info
      clear hss
      go_wp2_with (first
        | (refine wpList_appZ _ rfl (.tmp 48) (.tmp 50) 22 rfl 34 ir _ 6 56 recs_und hr1 hr2 hr3 hr4 rfl (by decide) Z k cz (qs.flatMap rcells) rfl (HOS.out.alloc _) (some ⟨wd.heap.size, 0, none⟩) 1 1 (rcells (twn p o)) rfl (fun e => by cases e) rfl HROW.out (rcells_one _) (by omega) (by omega) ?_; intro Z2 c2z w10 ho10 hg10 ha10; have HO10 := Lib.hid ho10; have HG10 := Lib.hid hg10; have HA10 := Lib.hid ha10; clear ho10 hg10 ha10)
        | fail)
      go_roundw
      case rel =>
        refine ⟨k + 1, by omega, by go_num, Z2, c2z, qs ++ [twn p o], rfl, ?_, HT2.out, fun q hq => ?_, (HKS.out.alloc _).grown HG10.out (fun j hj => .inr (HZ.out j hj)), fun j hj => ?_⟩
        · rw [List.flatMap_append]
          have h : OwnK 6 34 w10 Z2 (k + 1) c2z (qs.flatMap rcells ++ rcells (twn p o)) := HO10.out
          simpa using h
        · rcases List.mem_append.1 hq with hq | hq
          · exact HQB.out q hq
          · rcases List.mem_singleton.1 hq with rfl
            show o.length ≤ 4096
            rw [HOL.out]; exact hbl
        · rcases HA10.out with e | e
          · exact HZ.out j (by rw [← e]; exact hj)
          · rw [e] at hj; cases hj
            have h1 := HKD.out.size; have h2 := HSS.out; simp; omega
      case measure => simp [intOf]; omega
    · obtain rfl : k = n := by omega
      have htk : rs.take k = rs := List.take_of_length_le (by rw [HLN.out]; exact Nat.le_refl _)
      rw [htk] at htw
      have HTW := Lib.hid htw
      have HQL : Hid (qs.length = k) := Lib.hid (by rw [htw.1]; exact HLN.out)
      have HQB := Lib.hid hqb; have HOWN := Lib.hid hown; have HKR := Lib.hid kr
      have hz32 := zc_run
      have h6 := H60.out
      clear htk htw hqb hown kr hz
      go_wp2_with (first
        | (refine wpList_built rfl 32 _ rfl (.agg (bvs z32).toArray) (by exact exec_build _ _ rfl [] _ rfl (z_build2 _)) ?_)
        | fail)
      refine (kept_dream z32 wr z32_len).mono ?_
      rintro e w3 ⟨c1, x1, rfl, hn1⟩
      have HN1 := Lib.hid hn1; clear hn1
      go_wp2_with (first
        | (refine wpList_built rfl 32 _ rfl (.agg (bvs z32).toArray) (by exact exec_build _ _ rfl [] _ rfl (z_build2 _)) ?_)
        | fail)
      refine (kept_dream z32 w3 z32_len).mono ?_
      rintro e w4 ⟨c2, x2, rfl, hn2⟩
      have HN2 := Lib.hid hn2; clear hn2
      have hs3 := HN1.out.k.size
      have hs4 := HN2.out.k.size
      have hwr := HKR.out.size
      have hb1 := HN1.out.b
      have hb2 := HN2.out.b
      have HK4 := Lib.hid ((HKR.out.trans HN1.out.k (fun _ e => e.elim)).trans HN2.out.k (fun _ e => e.elim))
      have hd := hH z32 1099511627776 1 2 three rs qs HTW.out
      obtain ⟨R, hR⟩ : ∃ R, R = pk (.dream []) z32 1099511627776 1 2 three rs := ⟨_, rfl⟩
      obtain ⟨R', hR'⟩ : ∃ R', R' = pk (.dream []) z32 1099511627776 1 2 three qs := ⟨_, rfl⟩
      rw [← hR, ← hR'] at hd
      have HD := Lib.hid hd
      have hrh : R.h.length = 32 := by rw [hR]; exact hS.h32 _ _ _ _ _ _ _ trivial three_len
      have HRH := Lib.hid hrh
      have hp1 := hP c1 x1 1 2 three A k c rs w4 (HN1.out.vx.keep0 HN2.out.k) three_len HLN.out (HR.out.keep0 HK4.out) ((rrow_far HR.out).imp id (fun h i e e2 => by have h1 := h i e; have h2 := HN1.out.vx.ge i e2; omega)) (by omega) HBD.out (by rw [HN1.out.o_]; simp [Ts.few]) (by rw [HN1.out.o_]; trivial) (by rw [HN1.out.cl]; omega) (by omega) (by omega) (by rw [HN1.out.lm]; omega)
      rw [HN1.out.o_, HN1.out.ms, HN1.out.lm, ← hR] at hp1
      have HP1 := Lib.hid hp1
      have HP2 : Hid (∀ w6, Vx w6 c2 x2 → Rrow w6 Z qs → Calls Tryz.prog 23 #[.pointer (some ⟨c2.v, 0, none⟩), .int .i64 1, .int .i64 2, .agg (bvs three).toArray, .slice Z k cz] w6 fun r w' => ∃ (F2 P2 : Nat → Prop) (sl2 : List (Vault.Pl × List UInt8)) (cl2 : Nat) (X : Option Addr) (cX : Nat),
          r = .returned (.tuple #[.slice X R.b.length cX, .agg (bvs R.h).toArray, .int .i64 R.e]) ∧ Vq w6 c2 x2 w' ⟨F2, P2, R'.o, sl2, cl2⟩ ∧ cl2 ≤ x2.cl + k ∧ Ans w6 w' P2 X cX R.b) := Lib.hid (fun w6 hv hrow => by
        have := hP c2 x2 1 2 three Z k cz qs w6 hv three_len HQL.out hrow (.inr (fun i e e2 => by have h1 := OwnK.lt HOWN.out i e; have h2 := HN2.out.vx.ge i e2; omega)) (by omega) HQB.out (by rw [HN2.out.o_]; simp [Ts.few]) (by rw [HN2.out.o_]; trivial) (by rw [HN2.out.cl]; omega) (by omega) (by omega) (by rw [HN2.out.lm]; omega)
        rw [HN2.out.o_, HN2.out.ms, HN2.out.lm, ← hR', ← HD.out.1, ← HD.out.2.1, ← HD.out.2.2] at this
        exact this)
      clear hd hR hR' hrh hp1
      obtain ⟨E, hE⟩ : ∃ E, E = R.e := ⟨_, rfl⟩
      rw [← hE] at HP1 HP2
      clear hE
      go_wp2_with (first
        | (refine wpList_built rfl 32 _ rfl (.agg (bvs three).toArray) (by exact exec_build _ _ rfl [(0, .int .u8 3)] _ rfl (three_build _)) ?_)
        | fail)
      refine HP1.out.mono ?_
      rintro r w5 ⟨F1, P1, sl1, cl1, X1, cX1, rfl, hq1, hcl1, hA1⟩
      have HA1 := Lib.hid hA1
      have HK5 : Hid (Kp nob w w5) := Lib.hid (HK4.out.trans hq1.kp (fun i e => .inr (by have h2 := HN1.out.vx.ge i e; omega)))
      have HV5 : Hid (Vx w5 c2 x2) := Lib.hid (HN2.out.vx.keepD ⟨[], HN2.out.o_⟩ hq1.kp (fun i _ e e2 => by have h1 := HN1.out.vx.lt i e; have h2 := HN2.out.vx.ge i e2; omega))
      have HZ5 : Hid (OwnK 6 34 w5 Z k cz (qs.flatMap rcells)) := Lib.hid (((HOWN.out.keep HN1.out.k (fun _ _ e => e)).keep HN2.out.k (fun _ _ e => e)).keep hq1.kp (fun i e e2 => by have h1 := OwnK.lt HOWN.out i e; have h2 := HN1.out.vx.ge i e2; omega))
      have HB5 := Lib.hid (Blk.new w5 32 zc)
      have HS5 : Hid (w4.heap.size ≤ w5.heap.size) := Lib.hid hq1.kp.size
      clear hq1 hcl1 hA1 HP1
      go_wp2_with (first
        | (refine wpList_store_blk rfl 32 (.tmp 11) (.tmp 63) rfl _ _ _ (bvs R.h) HB5.out rfl rfl (by rw [bvs_length, HRH.out, zc_length]) (by rw [bvs_length, HRH.out]; kernel_rfl) (bvs_one _) ?_; intro w6 hB6 k6 z6; have HB6 := Lib.hid hB6; have HK56 : Hid (Kp nob w5 w6) := Lib.hid (((Kp.refl nob w5).alloc (.cells zc.toArray 32)).trans k6 (fun i e => .inr (by have e : i = w5.heap.size := e; omega))); clear hB6 k6 z6)
        | (refine wpList_built rfl 32 _ rfl (.agg (bvs three).toArray) (by exact exec_build _ _ rfl [(0, .int .u8 3)] _ rfl (three_build _)) ?_)
        | fail)
      refine (HP2.out w6 (HV5.out.keep0 HK56.out) ((OwnK.row HZ5.out).keep0 HK56.out)).mono ?_
      rintro r w7 ⟨F2, P2, sl2, cl2, X2, cX2, rfl, hq2, hcl2, hA2⟩
      have HA2 := Lib.hid hA2
      have hx2 : ∀ i, x2.P i → i < w4.heap.size ∧ w3.heap.size ≤ i := fun i e => ⟨HN2.out.vx.lt i e, by have := HN2.out.vx.ge i e; omega⟩
      have HK7 : Hid (Kp nob w w7) := Lib.hid ((HK5.out.trans HK56.out (fun _ e => e.elim)).trans hq2.kp (fun i e => .inr (by have h2 := hx2 i e; omega)))
      have HB7 := Lib.hid (HB6.out.keep hq2.kp (fun e => by have h2 := hx2 _ e; have h3 := HS5.out; omega))
      have HR7 : Hid (Row w7 X1 (bvs R.b)) := Lib.hid ((HA1.out.row.keep0 HK56.out).keep hq2.kp (fun i e e2 => by have h1 := (HA1.out.far i e).1; have h2 := hx2 i e2; omega))
      have HBZ := Lib.hid (Blk.new w7 32 zc)
      clear hq2 hcl2 hA2 HP2 hx2
      go_wp2_with (first
        | (refine wpList_store_blk rfl 32 (.tmp 14) (.tmp 71) rfl _ _ _ (bvs R.h) HBZ.out rfl rfl (by rw [bvs_length, HRH.out, zc_length]) (by rw [bvs_length, HRH.out]; kernel_rfl) (bvs_one _) ?_; intro w8 hB8 k8 z8; have HB8 := Lib.hid hB8; have HK78 : Hid (Kp nob w7 w8) := Lib.hid (((Kp.refl nob w7).alloc (.cells zc.toArray 32)).trans k8 (fun i e => .inr (by have e : i = w7.heap.size := e; omega))); have HB78 := Lib.hid (HB7.out.keep HK78.out (fun e => e)); clear hB8 k8 z8)
        | (refine wpList_gd (v := .string (str R.b)) (by rfl) (exec_bs (.tmp 73) X1 R.b.length cX1 R.b rfl rfl rfl (HR7.out.keep0 HK78.out)) ?_)
        | (refine wpList_gd (v := .string (str R.b)) (by rfl) (exec_bs (.tmp 75) X2 R.b.length cX2 R.b rfl rfl rfl (HA2.out.row.keep0 HK78.out)) ?_)
        | (refine wpList_gd (v := .bool true) (by rfl) (by rw [exec_eqStr (.tmp 74) (.tmp 76) R.b R.b rfl rfl rfl, decide_eq_true rfl]) ?_)
        | (refine wpList_load_gd 32 (.tmp 11) rfl (by rfl) w5.heap.size _ (bvs R.h) HB78.out rfl _ rarr_under rfl (rarr_size R.h HRH.out) ?_)
        | (refine wpList_load_gd 32 (.tmp 14) rfl (by rfl) w7.heap.size _ (bvs R.h) HB8.out rfl _ rarr_under rfl (rarr_size R.h HRH.out) ?_)
        | (refine wpList_gd (v := .bool true) (by rfl) (by rw [exec_eq32 (.tmp 79) (.tmp 80) _ R.h R.h HRH.out HRH.out rfl rfl rfl, decide_eq_true rfl]) ?_)
        | fail)
      go_ret
      exact ⟨rfl, HK7.out.trans HK78.out (fun _ e => e.elim)⟩
end Go.Proofs.YtiimfhacnfdmhaaGreat.Seg
namespace Go.Proofs.YtiimfhacnfdmhaaGreat.Seg
open Go Go.RowKit Kit
open Rec (Rec good ftot recB recB_length good_bounds)
open Ideal (Ts Thing sealT derT hashT leafT pairT rootT rootT_none rootT_one rootT_more half half_lt half_pos Sim sim_nil out mk mem_mk)
open Vault (nonce pur)
def TSim (o p : Ts) : Prop := ∃ ts us, o = .dream ts ∧ p = .dream us ∧ Sim ts us
theorem TSim.make {o p : Ts} (h : TSim o p) (t : Thing) (ht : t.kind ≠ 83) (n : Nat) : o.val t n = p.val t n ∧ TSim (o.nx t) (p.nx t) := by
  obtain ⟨ts, us, rfl, rfl, hs⟩ := h
  exact ⟨(hs.make t ht n).1, _, _, rfl, rfl, (hs.make t ht n).2⟩
def Before (e s : Int) (k : Nat) (o : Ts) : Prop := ∀ ts, o = .dream ts → ∀ t ∈ ts, t.kind = 83 → ∃ j, j < k ∧ t.b = nonce e (s + (j : Nat))
theorem Before.make {e s : Int} {k : Nat} {o : Ts} (h : Before e s k o) (t : Thing) (ht : t.kind ≠ 83) : Before e s k (o.nx t) := by
  cases o with
  | real f => intro ts e2; cases e2
  | dream us =>
    intro ts e2 u hu hk
    cases e2
    rcases (mem_mk us t u).1 hu with rfl | hu
    · exact absurd hk ht
    · exact h us rfl u hu hk
theorem Before.sealed {e s : Int} {k : Nat} {o : Ts} (h : Before e s k o) (key aad d : List UInt8) : Before e s (k + 1) (o.nx (sealT key (nonce e (s + (k : Nat))) aad d)) := by
  cases o with
  | real f => intro ts e2; cases e2
  | dream us =>
    intro ts e2 u hu hk
    cases e2
    rcases (mem_mk us _ u).1 hu with rfl | hu
    · exact ⟨k, by omega, rfl⟩
    · obtain ⟨j, h1, h2⟩ := h us rfl u hu hk
      exact ⟨j, by omega, h2⟩
theorem num8_inj {a b : Int} (h : num8 a = num8 b) : a % 18446744073709551616 = b % 18446744073709551616 := by
  have h2 := congrArg lowN h
  unfold num8 at h2
  rw [lowN_le, lowN_le] at h2
  omega
theorem nonce_apart (e s : Int) (i j : Nat) (hj : j < i) (hi : i ≤ 1000000) : nonce e (s + (j : Nat)) ≠ nonce e (s + (i : Nat)) := fun h => by
  rw [Vault.nonce_eq, Vault.nonce_eq] at h
  have h2 := num8_inj (List.append_cancel_left h)
  omega
theorem TSim.sealed {o p : Ts} (h : TSim o p) {e s : Int} {k : Nat} (hb : Before e s k o) (hk : k ≤ 1000000) (key aad d d2 : List UInt8) (hl : d.length = d2.length) :
    o.val (sealT key (nonce e (s + (k : Nat))) aad d) (d.length + 16) = p.val (sealT key (nonce e (s + (k : Nat))) aad d2) (d2.length + 16) ∧ TSim (o.nx (sealT key (nonce e (s + (k : Nat))) aad d)) (p.nx (sealT key (nonce e (s + (k : Nat))) aad d2)) := by
  obtain ⟨ts, us, rfl, rfl, hs⟩ := h
  have hf : Ideal.Frs ts key (nonce e (s + (k : Nat))) := fun t ht hk2 _ hb2 => by
    obtain ⟨j, hj, hj2⟩ := hb ts rfl t ht hk2
    exact nonce_apart e s k j hj hk (hj2.symm.trans hb2)
  have h3 := hs.seal_ key (nonce e (s + (k : Nat))) aad d d2 hf hl
  exact ⟨h3.1, _, _, rfl, rfl, h3.2⟩
theorem lfold_sim : ∀ (bs : List (List UInt8)) (a b : Ts × List (List UInt8)), TSim a.1 b.1 → a.2 = b.2 → TSim (bs.foldl lf1 a).1 (bs.foldl lf1 b).1 ∧ (bs.foldl lf1 a).2 = (bs.foldl lf1 b).2
  | [], a, b, h, h2 => ⟨h, h2⟩
  | x :: bs, a, b, h, h2 => by
    have h3 := h.make (leafT x) (by simp [leafT, Ideal.hashT_kind]) 32
    exact lfold_sim bs (lf1 a x) (lf1 b x) h3.2 (by unfold lf1; rw [h2, h3.1])
theorem root_sim (n : Nat) : ∀ (l : List (List UInt8)) (o p : Ts), l.length ≤ n → TSim o p → (rootT o l).1 = (rootT p l).1 ∧ TSim (rootT o l).2 (rootT p l).2 := by
  induction n with
  | zero =>
    intro l o p hl h
    obtain rfl : l = [] := List.eq_nil_of_length_eq_zero (by omega)
    rw [rootT_none, rootT_none]
    exact h.make _ (by simp [Ideal.hashT_kind]) 32
  | succ n ih =>
    intro l o p hl h
    match l, hl with
    | [], _ =>
      rw [rootT_none, rootT_none]
      exact h.make _ (by simp [Ideal.hashT_kind]) 32
    | [d], _ => rw [rootT_one, rootT_one]; exact ⟨rfl, h⟩
    | a :: b :: l, hl =>
      generalize he : a :: b :: l = L at hl ⊢
      have h2 : 2 ≤ L.length := by rw [← he]; simp
      have hp := half_pos L.length
      have hlt := half_lt L.length h2
      obtain ⟨x, hx⟩ : ∃ x, rootT o (L.take (half L.length)) = x := ⟨_, rfl⟩
      obtain ⟨y, hy⟩ : ∃ y, rootT x.2 (L.drop (half L.length)) = y := ⟨_, rfl⟩
      obtain ⟨x', hx'⟩ : ∃ x, rootT p (L.take (half L.length)) = x := ⟨_, rfl⟩
      obtain ⟨y', hy'⟩ : ∃ y, rootT x'.2 (L.drop (half L.length)) = y := ⟨_, rfl⟩
      have i1 := ih (L.take (half L.length)) o p (by rw [List.length_take]; omega) h
      rw [hx, hx'] at i1
      have i2 := ih (L.drop (half L.length)) x.2 x'.2 (by rw [List.length_drop]; omega) i1.2
      rw [hy, hy'] at i2
      rw [rootT_more o L h2 x y hx hy, rootT_more p L h2 x' y' hx' hy', i1.1, i2.1]
      exact i2.2.make _ (by simp [pairT, Ideal.hashT_kind]) 32
theorem rtA_sim (o p : Ts) (bs : List (List UInt8)) (h : TSim o p) : (rtA o bs).1 = (rtA p bs).1 ∧ TSim (rtA o bs).2 (rtA p bs).2 := by
  rw [rtA_eq, rtA_eq]
  have h1 := lfold_sim bs (o, []) (p, []) h rfl
  unfold lfA
  rw [h1.2]
  exact root_sim _ _ _ _ (Nat.le_refl _) h1.1
theorem hdA_sim (o p : Ts) (at' : List UInt8) (T : Nat) (ps : List (Int × List UInt8)) (h : TSim o p) : (hdA o at' T ps).b = (hdA p at' T ps).b ∧ (hdA o at' T ps).h = (hdA p at' T ps).h := by
  have h1 := rtA_sim o p (ps.map (·.2)) h
  rw [hdA_b, hdA_b, hdA_h, hdA_h, h1.1]
  exact ⟨rfl, (h1.2.make _ (by simp [Ideal.hashT_kind]) 32).1⟩
theorem fold_sim (ms : List UInt8) (e s : Int) (at' : List UInt8) (n : Nat) : ∀ (rs qs : List Rec) (a b : Ts × List (Int × List UInt8)), Twins rs qs → (∀ r ∈ rs, r.body.length ≤ 4096) → TSim a.1 b.1 → a.2 = b.2 → Before e s a.2.length a.1 → a.2.length + rs.length ≤ 1000000 →
    TSim (rs.foldl (st1 ms e s at' n) a).1 (qs.foldl (st1 ms e s at' n) b).1 ∧ (rs.foldl (st1 ms e s at' n) a).2 = (qs.foldl (st1 ms e s at' n) b).2 := by
  intro rs
  induction rs with
  | nil =>
    intro qs a b ht hb h h2 hbf hl
    obtain rfl : qs = [] := List.eq_nil_of_length_eq_zero (by have := ht.1; simpa using this)
    exact ⟨h, h2⟩
  | cons r rs ih =>
    intro qs a b ht hb h h2 hbf hl
    match qs, ht with
    | [], ht => exact absurd ht.1 (by simp)
    | q :: qs, ht =>
      have h0 := ht.2 0 r q rfl rfl
      have ht2 : Twins rs qs := ⟨by have := ht.1; simpa using this, fun i x y hx hy => ht.2 (i + 1) x y (by simpa using hx) (by simpa using hy)⟩
      have hrl : (recB r).length = (recB q).length := by
        rw [recB_length r (hb r List.mem_cons_self), recB_length q (by rw [h0.2]; exact hb r List.mem_cons_self), h0.2]
      have hq : q.queue = r.queue := by rw [h0.1]; rfl
      have hkk : (keyT ms r.queue).kind ≠ 83 := by unfold keyT; rw [Ideal.derT_kind]; decide
      have k1 := h.make (keyT ms r.queue) hkk 32
      have k2 := k1.2.sealed (hbf.make _ hkk) (k := a.2.length) (by rw [List.length_cons] at hl; omega) (a.1.val (keyT ms r.queue) 32) (besT at' a.2.length n) (recB r) (recB q) hrl
      rw [List.foldl_cons, List.foldl_cons]
      refine ih qs _ _ ht2 (fun x hx => hb x (List.mem_cons_of_mem _ hx)) ?_ ?_ ?_ ?_
      · unfold st1 stT
        simp only
        rw [hq, ← k1.1, ← h2]
        exact k2.2
      · unfold st1 stT
        simp only
        rw [hq, ← k1.1, ← h2, k2.1]
      · unfold st1 stT
        simp only [List.length_append, List.length_cons, List.length_nil]
        exact (hbf.make _ hkk).sealed _ _ _
      · unfold st1
        simp only [List.length_append, List.length_cons, List.length_nil]
        rw [List.length_cons] at hl; omega
theorem good_twn (r : Rec) (b : List UInt8) (h : b.length = r.body.length) : good (twn r b) = good r := by
  have h2 : b.isEmpty = r.body.isEmpty := by rw [Bool.eq_iff_iff, List.isEmpty_iff_length_eq_zero, List.isEmpty_iff_length_eq_zero, h]
  unfold good twn; simp only [h, h2]
theorem twins_perrs (lim : Nat) (e s : Int) : ∀ (rs qs : List Rec) (i size : Nat), Twins rs qs → perrs lim e s i size rs = perrs lim e s i size qs
  | [], qs, i, size, ht => by
    obtain rfl : qs = [] := List.eq_nil_of_length_eq_zero (by have := ht.1; simpa using this)
    rfl
  | r :: rs, [], i, size, ht => absurd ht.1 (by simp)
  | r :: rs, q :: qs, i, size, ht => by
    have h0 := ht.2 0 r q rfl rfl
    have ht2 : Twins rs qs := ⟨by have := ht.1; simpa using this, fun i x y hx hy => ht.2 (i + 1) x y (by simpa using hx) (by simpa using hy)⟩
    have h1 : perr1 lim e s i size q = perr1 lim e s i size r := by
      have hg : good q = good r := by rw [h0.1]; exact good_twn r _ h0.2
      unfold perr1; rw [hg, h0.2]
    rw [perrs_cons, perrs_cons, h1, h0.2, twins_perrs lim e s rs qs (i + 1) (size + 63 + r.body.length) ht2]
theorem twins_ftot (rs qs : List Rec) (ht : Twins rs qs) : ftot rs = ftot qs := by
  have : rs.map (fun r => 63 + r.body.length) = qs.map (fun r => 63 + r.body.length) := by
    apply List.ext_getElem
    · simp [ht.1]
    · intro i h1 h2
      rw [List.length_map] at h1 h2
      have := ht.2 i rs[i] qs[i] (List.getElem?_eq_getElem h1) (List.getElem?_eq_getElem h2)
      simp [this.2]
  unfold ftot; rw [this]
theorem pk_hides : HidC pk := by
  intro ms lim e s at' rs qs ht
  by_cases hn : rs = []
  · subst hn
    obtain rfl : qs = [] := List.eq_nil_of_length_eq_zero (by have := ht.1; simpa using this)
    exact ⟨rfl, rfl, rfl⟩
  have hn2 : qs ≠ [] := fun e => hn (List.eq_nil_of_length_eq_zero (by rw [← ht.1, e]; rfl))
  have hp := twins_perrs lim e s rs qs 0 48 ht
  by_cases h : perrs lim e s 0 48 rs = 0
  · have hpe : perr lim e s rs = 0 := by rw [perr, if_neg hn]; exact h
    obtain ⟨_, hg, hft, _⟩ := perr_ok hpe
    have hfew := few_of rs hft
    rw [pk_yes _ _ _ _ _ _ _ hn h, pk_yes _ _ _ _ _ _ _ hn2 (by rw [← hp]; exact h)]
    have hs := fold_sim ms e s at' rs.length rs qs (.dream [], []) (.dream [], []) ht (fun r hr => by have := good_bounds r (hg r hr); omega) ⟨[], [], rfl, rfl, sim_nil⟩ rfl (fun ts e2 t ht2 => by cases e2; cases ht2) (by simp; omega)
    unfold stA
    rw [← twins_ftot rs qs ht, ht.1, ← hs.2]
    exact ⟨(hdA_sim _ _ at' _ _ hs.1).1, (hdA_sim _ _ at' _ _ hs.1).2, by rw [hdA_e, hdA_e]⟩
  · rw [pk_no _ _ _ _ _ _ _ hn h, pk_no _ _ _ _ _ _ _ hn2 (by rw [← hp]; exact h)]
    exact ⟨rfl, rfl, hp⟩
end Go.Proofs.YtiimfhacnfdmhaaGreat.Seg
namespace Go.Proofs.YtiimfhacnfdmhaaGreat.Seg
open Go Go.RowKit Kit
open Rec (Rec rcells)
theorem hides_any (A : Option Addr) (n c : Nat) (rs : List Rec) (B : Option Addr) (m d : Nat) (os : List (List UInt8)) (w : World)
    (hl : rs.length = n) (hn : A = none → c = 0) (hr : Row w A (rs.flatMap rcells)) (hc : n ≤ c) (hm : c ≤ maxLen) (hw : ∀ r ∈ rs, r.ok) (hol : os.length = m) (hon : B = none → d = 0) (hor : Row w B (os.map fun s => .string (str s))) (hod : m ≤ d) (hom : d ≤ maxLen) (hob : ∀ s ∈ os, s.length ≤ 140737488355328) :
    Calls Tryz.prog 7 #[.slice A n c, .slice B m d] w fun e w' => e = .returned (.bool true) ∧ Kp nob w w' := by
  letI : Inhabited Sha.ShaTab := ⟨shaAny⟩
  letI : Inhabited Field.SqTab := ⟨sqAny⟩
  exact hides_walk pk pack_c pk_shape pk_hides sectors_c length_c A n c rs B m d os w hl hn hr hc hm hol hor hod hom hob
end Go.Proofs.YtiimfhacnfdmhaaGreat.Seg
