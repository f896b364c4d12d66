/- Lemmas: SegA Scr ScrR SegSizes SegErrors SegPk. -/
import Derived.Test.YtiimfhacnfdmhaaGreatZH25
import Derived.Test.YtiimfhacnfdmhaaGreatZH20
import Derived.Test.YtiimfhacnfdmhaaGreatZH00
import Derived.Test.YtiimfhacnfdmhaaGreatZH01
import Derived.Test.YtiimfhacnfdmhaaGreatZH02
import Derived.Test.YtiimfhacnfdmhaaGreatZH06
import Derived.Test.YtiimfhacnfdmhaaGreatZH21
import Derived.Test.YtiimfhacnfdmhaaGreatZH08
import Derived.Deep.Fields
import Derived.Deep.Strs
import Derived.Deep.MidRow
import Derived.ChangeArms
import Derived.WideShapes
set_option linter.unusedVariables false
set_option linter.unusedSimpArgs false
namespace Go.Proofs.YtiimfhacnfdmhaaGreat.Seg
open Go Go.RowKit Kit
open Rec (Rec good ftot fsec split Rrow Sr SrOk rcells rec_under rec_size exec_recOne)
open Ideal (Ts Thing Arg Args zc zc_run zc_length zc_eq z32)
open Vault
def r0 : Rec := ⟨7, 0, 0, 1, 0, []⟩
theorem r0_good : good r0 = true := by first | rfl | (unfold good; rfl) | (unfold good; simp [r0, Rec.inB])
theorem perr_r0 : perr 1099511627776 0 0 [r0] = 0 := by
  rw [perr, if_neg (by simp), perrs_cons]
  have : perr1 1099511627776 0 0 0 48 r0 = 0 := by
    unfold perr1
    rw [if_neg (by rw [r0_good]; simp), if_neg (by simp [r0]), if_neg (by omega), if_neg (by omega)]
  rw [if_pos this]
  rfl
theorem ftot_r0 : ftot [r0] = 111 := rfl
theorem fsec_r0 : fsec [r0] = 1 := rfl
theorem z32_len : z32.length = 32 := by simp [z32]
theorem z_build2 (w : World) : (Instr.build 32 #[]).run Tryz.prog w = .ok (.agg (bvs z32).toArray) w := by rw [← zc_eq]; exact z_build w
structure Ax where
  c : Vc
  x : Vt
  X : Option Addr
  cX : Nat
def aT [Inhabited Sha.ShaTab] [Inhabited Field.SqTab] (w0 : World) (g : Nat) (b : List UInt8) (p : Nat) (q : Ax) (w : World) : Prop :=
  Kp nob w0 w ∧ Blk w g 34 (rcells r0) ∧ (∀ i, q.x.P i ∨ ab q.X = some i → i < w.heap.size ∧ w0.heap.size < i) ∧ (p = 0 → ∀ i, ¬ (q.x.P i ∨ ab q.X = some i)) ∧ (p = 1 → q.X = none) ∧
    (p = 1 → Vx w q.c q.x ∧ q.x.o = .dream [] ∧ q.x.cl = 0 ∧ q.c.ms = z32 ∧ q.c.lim = 1099511627776) ∧ (p = 2 → Row w q.X (bvs b) ∧ (q.X = none → q.cX = 0) ∧ b.length ≤ q.cX ∧ q.cX ≤ maxLen)
def aV (b h : List UInt8) (e : Int) (r : Nat) (q : Ax) : Value := if r = 0 then .pointer (some ⟨q.c.v, 0, none⟩) else .tuple #[.slice q.X b.length q.cX, .agg (bvs h).toArray, .int .i64 e]
theorem wp_store_whole {P : Program} {a : Act} {o : Oper} {w : World} {K' : Act → World → Prop} {Q : Exit → Act → World → Prop} (ty : TypeId) (x y : Operand) (ho : o.op = .store ty x y) (g : Nat) (t : TypeId) (cs vs : List Value) (hB : Blk w g t cs) (hx : a.eval x = .pointer (some ⟨g, 0, none⟩)) (hy : a.eval y = .agg vs.toArray)
    (hl : vs.length = cs.length) (hz : (P.info? ty).map (·.size) = some vs.length) (h1 : ∀ u ∈ vs, u.oneCell' = true) (h : ∀ w', Blk w' g t vs → Kp (fun i => i = g) w w' → K' (a.put o.dst undef) w') : Oper.wp P o a w K' Q := by
  have ht : w.there g 0 vs.toArray.size := by have := hB.there; rw [← hl] at this; simpa using this
  have hz' : (P.info? ty).map (·.size) = some vs.toArray.size := by simpa using hz
  exact wp_store_mid ty x y ho g 0 vs.toArray hx hy ht hz' (all_oneCell_toArray h1) (by simpa using h _ (hB.setAll hl) (Kp.setCells (F := fun i => i = g) (.inl rfl) _ (Kp.refl _ w)))
theorem exec_move {P : Program} {a : Act} {o : Oper} {w : World} {v : Value} (x : Operand) (ho : o.op = .move x) (hx : a.eval x = v) : (execOp a.eval o).run P w = .ok (.value v) w := by
  unfold execOp; simp only [ho, hx]; rfl
theorem exec_assign {P : Program} {a : Act} {o : Oper} {w : World} {v : Value} (x : Operand) (ho : o.op = .assign x) (hx : a.eval x = v) : (execOp a.eval o).run P w = .ok (.value v) w := by
  unfold execOp; simp only [ho, hx]; rfl
theorem exec_extract3 {P : Program} {a : Act} {o : Oper} {w : World} {u v z : Value} (x : Operand) (i : Nat) (r : Value) (ho : o.op = .extract x i) (hx : a.eval x = .tuple #[u, v, z]) (hi : #[u, v, z][i]? = some r) : (execOp a.eval o).run P w = .ok (.value r) w := by
  unfold execOp; simp only [ho, hx]; go_simp <;> simp_all
def aE (b h : List UInt8) (e : Int) (r : Nat) (q : Ax) : Value := if r = 6 then .tuple #[.slice q.X b.length q.cX, .agg (bvs h).toArray, .int .i64 e] else if r = 7 ∨ r = 11 then .slice q.X b.length q.cX else if r = 8 then .agg (bvs h).toArray else .int .i64 e
def aO (q : Ax) : Nat → Prop := fun i => q.x.P i ∨ ab q.X = some i
set_option maxHeartbeats 4000000 in
set_option maxRecDepth 100000 in
theorem alive_yes [Inhabited Sha.ShaTab] [Inhabited Field.SqTab] (pk : PackF) (hP : PackC pk) (hS : PackS pk) (hSec : SectorsC) (hLen : LengthC) (w : World) :
    Calls Tryz.prog 9 #[] w fun e w' => e = .returned (.bool true) ∧ Kp nob w w' := by
  obtain ⟨R, hR⟩ : ∃ R, R = pk (.dream []) z32 1099511627776 0 0 z32 [r0] := ⟨_, rfl⟩
  have he : R.e = 0 := by rw [hR, hS.err]; exact perr_r0
  obtain ⟨rest, hb, hbl⟩ := hS.begins (.dream []) z32 1099511627776 0 0 z32 [r0] trivial (by rw [← hR]; exact he)
  rw [← hR, ftot_r0] at hb
  rw [ftot_r0] at hbl
  have hl : R.b.length = 111 := by rw [hb]; simp; omega
  have hlf : lenF R.b = 111 := by
    have := lenF_of 111 rest [] hbl (by omega) (by omega)
    rw [List.append_nil] at this
    rw [hb]; exact this
  have h32 : R.h.length = 32 := by rw [hR]; exact hS.h32 _ _ _ _ _ _ _ trivial z32_len
  have HR := Lib.hid (And.intro hR (And.intro he (And.intro hl (And.intro hlf h32))))
  clear he hb hbl hl hlf rest hR h32
  have HB := Lib.hid (show Blk (w.alloc (.cells #[.int .i64 7, .int .i64 0, .int .i64 0, .int .i64 1, .int .i64 0, .string ⟨#[]⟩] 34)).drew w.heap.size 34 (rcells r0) from (show Blk (w.alloc (.cells #[.int .i64 7, .int .i64 0, .int .i64 0, .int .i64 1, .int .i64 0, .string ⟨#[]⟩] 34)) w.heap.size 34 (rcells r0) from Blk.new' (by simp) rfl).keep (Kp.refl nob _).drew (fun e => e))
  have HK := Lib.hid (show Kp nob w (w.alloc (.cells #[.int .i64 7, .int .i64 0, .int .i64 0, .int .i64 1, .int .i64 0, .string ⟨#[]⟩] 34)).drew from ((Kp.refl nob w).alloc _).drew)
  go_enter Tryz.func9, Tryz.ntmps9
  go_wp2
  obtain ⟨wb, hwb⟩ : ∃ wb, wb = w.alloc (.cells #[.int .i64 7, .int .i64 0, .int .i64 0, .int .i64 1, .int .i64 0, .string ⟨#[]⟩] 34) := ⟨_, rfl⟩
  have hws : wb.drew.heap.size = w.heap.size + 1 := by rw [hwb]; rw [show ∀ w : World, w.drew.heap.size = w.heap.size from fun _ => rfl]; simp
  rw [← hwb] at HB HK ⊢
  clear hwb
  refine reg_begin (fun w2 => Blk w2 w.heap.size 34 (rcells r0)) (by kernel_rfl) HB.out (fun _ => ?_)
  refine reg_take (v := .agg (bvs z32).toArray) 0 (some 7) rfl rfl (by kernel_rfl) (by kernel_rfl) (by kernel_rfl) (by rfl) HB.out (fun w _ => exec_build _ _ rfl [] _ rfl (z_build2 _)) ?_
  simp only [Act.put, List.setIfInBounds_toArray, List.set_cons_zero, List.set_cons_succ]
  refine reg_take (v := .agg (bvs z32).toArray) 2 (some 9) rfl rfl (by kernel_rfl) (by kernel_rfl) (by kernel_rfl) (by rfl) HB.out (fun w _ => exec_build _ _ rfl [] _ rfl (z_build2 _)) ?_
  simp only [Act.put, List.setIfInBounds_toArray, List.set_cons_zero, List.set_cons_succ]
  refine reg_load 3 (some 10) 34 (.tmp 1) rfl rfl rfl (by kernel_rfl) (by kernel_rfl) (by kernel_rfl) (by rfl) HB.out w.heap.size 0 rfl (rcells r0) _ (fun w hw => hw.range) rec_under rfl (rec_size r0) ?_
  simp only [Act.put, List.setIfInBounds_toArray, List.set_cons_zero, List.set_cons_succ]
  refine reg_vaultS (X := Ax) [1, 5] [4, 10] [6, 7, 8, 9, 11, 13] 5 12 10 [(4, some 11), (10, some 3), (1, some 8), (5, some 12), (6, some 6), (7, some 13), (8, some 14), (9, some 15), (11, some 2), (13, some 4), (12, none)] _ _ _ _ 0 14 (aT w w.heap.size R.b) aO (aV R.b R.h R.e) (aE R.b R.h R.e) (w.heap.size + 1)
    (fun d => if d = 4 then 34 else 32) (fun d => if d = 4 then rcells r0 else zc) (fun d g => if d = 4 then .slice (some ⟨g, 0, none⟩) 1 1 else .pointer (some ⟨g, 0, none⟩)) (fun _ => bvs R.h)
    rfl rfl rfl (by kernel_rfl) (by kernel_rfl) (by kernel_rfl) (by kernel_rfl) (by kernel_rfl) (by kernel_rfl) (by simp) ⟨by decide, by decide⟩ (by kernel_rfl) rfl (by kernel_rfl)
    (fun p x w' h => h.2.1) (fun p x w' h => h.2.1.lt) (fun p x w' h i e => (h.2.2.1 i e).1) (fun p x w' o h => ?hT) ⟨⟨0, 0, 0, [], 0, 0⟩, ⟨fun _ => False, fun _ => False, .dream [], [], 0⟩, none, 0⟩ ⟨HK.out, HB.out, fun i e => e.elim (fun e => e.elim) (fun e => by cases e), fun _ i e => e.elim (fun e => e.elim) (fun e => by cases e), fun e => by omega, fun e => by omega, fun e => by omega⟩ ?hcall ?hnew ?hqt ?hTg ?hst ?hK
  case hT => exact ⟨h.1.alloc _, h.2.1.alloc _, fun i e => ⟨by have := (h.2.2.1 i e).1; simp; omega, (h.2.2.1 i e).2⟩, h.2.2.2.1, h.2.2.2.2.1, fun e => let ⟨a1, a2⟩ := h.2.2.2.2.2.1 e; ⟨a1.alloc _, a2⟩, fun e => let ⟨a1, a2⟩ := h.2.2.2.2.2.2 e; ⟨a1.alloc _, a2⟩⟩
  case hnew =>
    intro d hd o a w1 ho e0
    simp only [List.mem_cons, List.not_mem_nil, or_false] at hd
    rcases hd with rfl | rfl
    · obtain rfl := oper_is ho rfl
      have hx : a.eval (.tmp 10) = .agg (rcells r0).toArray := e0 10 (by kernel_rfl)
      exact exec_recOne (.tmp 10) r0 rfl hx
    · obtain rfl := oper_is ho rfl
      have hz := zc_run w1
      unfold execOp
      go_simp
  case hqt =>
    intro d hd o a w1 x ho ec ee hT
    simp only [List.mem_cons, List.not_mem_nil, or_false] at hd
    rcases hd with rfl | rfl | rfl | rfl | rfl | rfl
    · obtain rfl := oper_is ho rfl
      have hx : a.eval (.tmp 12) = .tuple #[.slice x.X R.b.length x.cX, .agg (bvs R.h).toArray, .int .i64 R.e] := ec 1 (by decide) 12 rfl
      exact exec_move (.tmp 12) rfl hx
    · obtain rfl := oper_is ho rfl
      have hx : a.eval (.tmp 6) = .tuple #[.slice x.X R.b.length x.cX, .agg (bvs R.h).toArray, .int .i64 R.e] := ee 6 (by simp) (by kernel_rfl) 6 rfl
      exact exec_extract3 (.tmp 6) 0 _ rfl hx rfl
    · obtain rfl := oper_is ho rfl
      have hx : a.eval (.tmp 6) = .tuple #[.slice x.X R.b.length x.cX, .agg (bvs R.h).toArray, .int .i64 R.e] := ee 6 (by simp) (by kernel_rfl) 6 rfl
      exact exec_extract3 (.tmp 6) 1 _ rfl hx rfl
    · obtain rfl := oper_is ho rfl
      have hx : a.eval (.tmp 6) = .tuple #[.slice x.X R.b.length x.cX, .agg (bvs R.h).toArray, .int .i64 R.e] := ee 6 (by simp) (by kernel_rfl) 6 rfl
      exact exec_extract3 (.tmp 6) 2 _ rfl hx rfl
    · obtain rfl := oper_is ho rfl
      have hx : a.eval (.tmp 13) = .slice x.X R.b.length x.cX := ee 7 (by simp) (by kernel_rfl) 13 rfl
      exact exec_assign (.tmp 13) rfl hx
    · obtain rfl := oper_is ho rfl
      have hx : a.eval (.tmp 15) = .int .i64 R.e := ee 9 (by simp) (by kernel_rfl) 15 rfl
      exact exec_assign (.tmp 15) rfl hx
  case hTg =>
    intro x w1 w2 g hT hg hno k
    refine ⟨hT.1.trans k (fun i e => .inr (by omega)), hT.2.1.keep k (fun e => by omega), fun i e => ⟨Nat.lt_of_lt_of_le (hT.2.2.1 i e).1 k.size, (hT.2.2.1 i e).2⟩, hT.2.2.2.1, hT.2.2.2.2.1, fun e => by simp at e, fun e => ?_⟩
    obtain ⟨a1, a2⟩ := hT.2.2.2.2.2.2 rfl
    exact ⟨a1.keep k (fun i e1 e2 => hno (.inr (e2 ▸ e1))), a2⟩
  case hst =>
    intro o a w1 x g ho ee ed hb hT K' hK'
    obtain rfl := oper_is ho rfl
    have hx : a.eval (.tmp 3) = .pointer (some ⟨g, 0, none⟩) := ed 3 rfl
    have hy : a.eval (.tmp 14) = .agg (bvs R.h).toArray := ee 8 (by simp) (by kernel_rfl) 14 rfl
    exact wp_store_whole 32 (.tmp 3) (.tmp 14) rfl g 32 zc (bvs R.h) hb hx hy (by rw [bvs_length, HR.out.2.2.2.2, zc_length]) (rarr_size R.h HR.out.2.2.2.2) (bvs_one _) hK'
  case hcall =>
    intro p hp o a w1 x ho e0 ev ed hT K' hK'
    match p, hp with
    | 0, _ =>
      obtain rfl := oper_is ho rfl
      have hx : a.eval (.tmp 7) = .agg (bvs z32).toArray := e0 7 (by kernel_rfl)
      unfold Oper.wp
      rw [exec_func 27 _ _ [.bool false, .agg (bvs z32).toArray] rfl (by kernel_rfl) (by show [_, a.eval (.tmp 7)] = _; rw [hx]; rfl), Oper.upon_enter]
      refine (kept_dream z32 w1 z32_len).mono ?_
      rintro e w2 ⟨c, y, rfl, hn⟩
      have hs1 : w.heap.size < w1.heap.size := hT.2.1.lt
      refine hK' _ ⟨c, y, none, 0⟩ w2 rfl (fun r hr => by omega) ⟨hT.1.trans hn.k (fun _ e => e.elim), hT.2.1.keep hn.k (fun e => e), fun i e => ?_, fun e => by omega, fun _ => rfl, fun _ => ⟨hn.vx, hn.o_, hn.cl, hn.ms, hn.lm⟩, fun e => by omega⟩ (fun i e => ?_) (hn.k.nob _)
      · rcases e with e | e
        · have h1 := hn.vx.ge i e; have h2 := hn.b; have h3 := hn.vx.lt i e
          exact ⟨h3, by omega⟩
        · cases e
      · rcases e with e | e
        · have h1 := hn.vx.ge i e; have h2 := hn.b
          exact .inr (by omega)
        · cases e
    | 1, _ =>
      obtain rfl := oper_is ho rfl
      obtain ⟨hv1, hv2, hv3, hv4, hv5⟩ := hT.2.2.2.2.2.1 rfl
      have hX0 := hT.2.2.2.2.1 rfl
      have hx : a.eval (.tmp 8) = .pointer (some ⟨x.c.v, 0, none⟩) := ev 0 (by omega) 8 rfl
      have hy : a.eval (.tmp 9) = .agg (bvs z32).toArray := e0 9 (by kernel_rfl)
      obtain ⟨g, hg1, hg2, hg3, hg4⟩ : ∃ g, a.eval (.tmp 11) = .slice (some ⟨g, 0, none⟩) 1 1 ∧ Blk w1 g 34 (rcells r0) ∧ w.heap.size + 1 ≤ g ∧ ¬ aO x g := ed 4 (by simp) (by kernel_rfl) 11 rfl
      unfold Oper.wp
      rw [exec_func 23 _ _ [.pointer (some ⟨x.c.v, 0, none⟩), .int .i64 0, .int .i64 0, .agg (bvs z32).toArray, .slice (some ⟨g, 0, none⟩) 1 1] rfl (by kernel_rfl) (by show [a.eval (.tmp 8), _, _, a.eval (.tmp 9), a.eval (.tmp 11)] = _; rw [hx, hy, hg1]; rfl), Oper.upon_enter]
      have hrow : Rrow w1 (some ⟨g, 0, none⟩) [r0] := .inr ⟨g, 0, rfl, hg2.lt, fun i v hv => by rw [Nat.zero_add, hg2.cell]; simpa using hv⟩
      have hcall := hP x.c x.x 0 0 z32 (some ⟨g, 0, none⟩) 1 1 [r0] w1 hv1 z32_len rfl hrow (.inr (fun i e => by cases e; exact fun e => hg4 (.inl e))) (by omega) (fun r hr => by rcases List.mem_singleton.1 hr with rfl; simp [r0]) (by rw [hv2]; simp [Ts.few]) (by rw [hv2]; trivial) (by omega) (by omega) (by omega) (by omega)
      rw [hv2, hv4, hv5, ← HR.out.1] at hcall
      refine hcall.mono ?_
      rintro r w2 ⟨F2, P2, sl2, cl2, X, cX, rfl, hq, hcl, hA⟩
      have hs1 : w.heap.size < w1.heap.size := hT.2.1.lt
      have hkp : Kp (aO x) w1 w2 := hq.kp.mono (fun i _ e => .inl e)
      have hP2 : ∀ i, P2 i → i < w2.heap.size ∧ w.heap.size < i := fun i e => ⟨hq.now.lt i e, (hq.P i e).elim (fun e => (hT.2.2.1 i (.inl e)).2) (fun e => by omega)⟩
      have hXl : ∀ i, ab X = some i → i < w2.heap.size ∧ w.heap.size < i := fun i e => ⟨hA.row.lt (fun e2 => by have h1 := congrArg List.length e2; rw [bvs_length, HR.out.2.2.1] at h1; simp at h1) i e, by have := (hA.far i e).1; omega⟩
      refine hK' _ ⟨x.c, ⟨F2, P2, R.o, sl2, cl2⟩, X, cX⟩ w2 rfl (fun r hr => match r, hr with | 0, _ => rfl) ⟨hT.1.trans hq.kp (fun i e => .inr (by have := (hT.2.2.1 i (.inl e)).2; omega)), hT.2.1.keep hq.kp (fun e => absurd (hT.2.2.1 w.heap.size (.inl e)).2 (Nat.lt_irrefl _)), fun i e => e.elim (hP2 i) (hXl i), fun e => by omega, fun e => by omega, fun e => by omega, fun _ => ⟨hA.row, hA.nil, hA.cap, hA.mx⟩⟩ (fun i e => ?_) hkp
      rcases e with e | e
      · exact (hq.P i e).imp .inl id
      · exact .inr (hA.far i e).1
  case hK =>
    intro vals x w1 hv hd he hs hT
    obtain ⟨g, hg1, hg2, hg3, hg4⟩ := hd
    have v10 : vals 10 = .pointer (some ⟨g, 0, none⟩) := hg1
    have v6 : vals 6 = .tuple #[.slice x.X R.b.length x.cX, .agg (bvs R.h).toArray, .int .i64 R.e] := he 6 (by simp)
    have v7 : vals 7 = .slice x.X R.b.length x.cX := he 7 (by simp)
    have v8 : vals 8 = .agg (bvs R.h).toArray := he 8 (by simp)
    have v9 : vals 9 = .int .i64 R.e := he 9 (by simp)
    have v11 : vals 11 = .slice x.X R.b.length x.cX := he 11 (by simp)
    have v13 : vals 13 = .int .i64 R.e := he 13 (by simp)
    have hR0 := HR.out.2.1
    have hRl := HR.out.2.2.1
    obtain ⟨u4, h4⟩ : ∃ u, u = vals 4 := ⟨_, rfl⟩
    obtain ⟨u1, h1⟩ : ∃ u, u = vals 1 := ⟨_, rfl⟩
    obtain ⟨u5, h5⟩ : ∃ u, u = vals 5 := ⟨_, rfl⟩
    simp only [putZ, v6, v7, v8, v9, v10, v11, v13, ← h4, ← h1, ← h5]
    simp only [Act.put, List.setIfInBounds_toArray, List.set_cons_zero, List.set_cons_succ, hR0, hRl]
    refine reg_end (by kernel_rfl) ?_
    have HT := Lib.hid hT
    have HX := Lib.hid (hT.2.2.2.2.2.2 rfl)
    clear hT he hs hv v10 v6 v7 v8 v9 v11 v13 hg1 hg2 hg3 hg4
    have b0 : w1.cell? ⟨w.heap.size, 0, none⟩ = some (.int .i64 7) := HT.out.2.1.cell 0
    have b1 : w1.cell? ⟨w.heap.size, 1, none⟩ = some (.int .i64 0) := HT.out.2.1.cell 1
    have b2 : w1.cell? ⟨w.heap.size, 2, none⟩ = some (.int .i64 0) := HT.out.2.1.cell 2
    have b3 : w1.cell? ⟨w.heap.size, 3, none⟩ = some (.int .i64 1) := HT.out.2.1.cell 3
    have b4 : w1.cell? ⟨w.heap.size, 4, none⟩ = some (.int .i64 0) := HT.out.2.1.cell 4
    have b5 : w1.cell? ⟨w.heap.size, 5, none⟩ = some (.string ⟨#[]⟩) := HT.out.2.1.cell 5
    have HSE := Lib.hid (hSec (some ⟨w1.heap.size, 0, none⟩) 1 1 [r0] (w1.alloc (.cells #[.int .i64 7, .int .i64 0, .int .i64 0, .int .i64 1, .int .i64 0, .string ⟨#[]⟩] 34)) rfl (by
      have := row_new w1 (rcells r0) 34
      exact this) (by rw [ftot_r0]; omega) (by omega))
    rw [fsec_r0] at HSE
    have kA := (Kp.refl nob w1).alloc (.cells #[.int .i64 7, .int .i64 0, .int .i64 0, .int .i64 1, .int .i64 0, .string ⟨#[]⟩] 34)
    have HLE : Hid (∀ w2, Kp nob w1 w2 → Calls Tryz.prog 30 #[.slice x.X 111 x.cX] w2 fun e w' => e = .returned (.int .i64 111) ∧ Kp nob w2 w') := Lib.hid (fun w2 k => by
      have := hLen x.X 111 x.cX R.b w2 hRl (HX.out.1.keep0 k) (by omega) HX.out.2.1 (by have := HX.out.2.2.1; rw [hRl] at this; exact this) HX.out.2.2.2
      rw [HR.out.2.2.2.1] at this
      exact this)
    have HKA := Lib.hid kA
    clear kA
    go_wp2_with (first
      | (go_at_call 13; refine HSE.out.mono ?_; rintro e w2 ⟨rfl, k2⟩; have HK2 := Lib.hid (HKA.out.trans k2 (fun _ e => e.elim)); clear k2)
      | (go_at_call 30; refine (HLE.out _ HK2.out).mono ?_; rintro e w3 ⟨rfl, k3⟩)
      | fail)
    go_ret
    exact ⟨rfl, (HT.out.1.trans HK2.out (fun _ e => e.elim)).trans k3 (fun _ e => e.elim)⟩
end Go.Proofs.YtiimfhacnfdmhaaGreat.Seg
namespace Go.Proofs.YtiimfhacnfdmhaaGreat.Kit
open Go Go.RowKit
theorem weights_agg {H : Type} {P : Program} {t : TypeId} {fs : Array Field} {parts : List (DataW H)} (hu : P.underlying t = some (.struct fs)) : (DataW.agg parts).weights P t = DataW.weightsEach P (fs.toList.map (·.type)) parts := by
  unfold DataW.weights; rw [hu]
section
variable {H : Type} {enc : TypeId × Value → H} {P : Program} {W : World} {base : Nat} {held : Bool} {fuel : Nat}
theorem row_of_cells {A : Addr} {len k : Nat} {V : Nat → Nat → Value} (hk : 0 < k) (h : ∀ i, i < len → ∀ j, j < k → W.cell? (A.add (i * k + j)) = some (V i j)) : Row W (some A) ((List.range len).flatMap fun i => (List.range k).map (V i)) := by
  by_cases h0 : len = 0
  · subst h0; exact Row.nil _ _
  · have hc := h 0 (by omega) 0 hk
    obtain ⟨b, o, sp⟩ := A
    have hsp : sp = none := by
      rw [Nat.zero_mul, Nat.zero_add] at hc
      simpa [Addr.add] using World.cell?_spot hc
    subst hsp
    rw [Addr.add_mid] at hc
    refine .inr ⟨b, o, rfl, World.block_lt_of_cell? W _ hc, fun i u hu => ?_⟩
    have hlen : ∀ n : Nat, ((List.range n).flatMap fun i => (List.range k).map (V i)).length = n * k := fun n => by
      induction n with
      | zero => simp
      | succ n ih => rw [List.range_succ, List.flatMap_append, List.length_append, ih]; simp [Nat.succ_mul]
    have hat : ∀ n i : Nat, i < n * k → ((List.range n).flatMap fun i => (List.range k).map (V i))[i]? = some (V (i / k) (i % k)) := fun n => by
      induction n with
      | zero => intro i hi; omega
      | succ n ih =>
        intro i hi
        rw [List.range_succ, List.flatMap_append]
        by_cases hlt : i < n * k
        · rw [List.getElem?_append_left (by rw [hlen]; exact hlt), ih i hlt]
        · rw [Nat.succ_mul] at hi
          rw [List.getElem?_append_right (by rw [hlen]; omega), hlen]
          have e1 : i / k = n := by
            have h1 : n ≤ i / k := (Nat.le_div_iff_mul_le hk).2 (by omega)
            have h2 : i / k < n + 1 := (Nat.div_lt_iff_lt_mul hk).2 (by rw [Nat.succ_mul]; exact hi)
            omega
          have e2 : i % k = i - n * k := by
            have := Nat.div_add_mod i k
            rw [e1, Nat.mul_comm] at this; omega
          simp only [List.flatMap_cons, List.flatMap_nil, List.append_nil]
          rw [List.getElem?_map, List.getElem?_range (by omega), e1, e2]; rfl
    have hi : i < len * k := by
      have := (List.getElem?_eq_some_iff.1 hu).1
      rwa [hlen] at this
    rw [hat len i hi] at hu
    cases hu
    have hd : i / k < len := Nat.div_lt_of_lt_mul (by rw [Nat.mul_comm]; exact hi)
    have := h (i / k) hd (i % k) (Nat.mod_lt _ hk)
    rw [show i / k * k + i % k = i by rw [Nat.mul_comm]; exact Nat.div_add_mod i k, Addr.add_mid] at this
    exact this
theorem open_recs {t e : TypeId} {fs : Array Field} {A : Option Addr} {len cap : Nat} {x : DataW H × List MemPlace} (ht : P.underlying t = some (.slice e)) (he : P.underlying e = some (.struct fs))
    (hone : ∀ (i : Nat) (f : Field), fs[i]? = some f → f.offset = i ∧ P.cellsOf f.type = 1) (hC : P.cellsOf e = fs.size) (hpos : 0 < fs.size) (h : DataW.trod enc P W base (fun _ => true) held fuel t [.slice A len cap] = some x) :
    ∃ V : Nat → Nat → Value, Row W A ((List.range len).flatMap fun i => (List.range fs.size).map (V i)) ∧ len ≤ cap ∧ cap ≤ maxLen ∧ (A = none → cap = 0) ∧
      ∀ i, i < len → ∀ j f, fs[j]? = some f → ∃ m y, DataW.trod enc P W base (fun _ => true) held m f.type [V i j] = some y ∧ ∀ n ∈ y.1.weights P f.type, n ∈ x.1.weights P t := by
  rcases Deep.open_slice ht h with ⟨hcs, _⟩ | ⟨a, l, c, m, n, D, Pl, hcs, hb, hl, hc, hm, hx, hi⟩
  · simp only [List.cons.injEq, Value.slice.injEq, and_true] at hcs
    obtain ⟨rfl, rfl, rfl⟩ := hcs
    exact ⟨fun _ _ => undef, Row.nil _ _, Nat.le_refl _, by simp [maxLen], fun _ => rfl, fun i hi => by omega⟩
  · simp only [List.cons.injEq, Value.slice.injEq, and_true] at hcs
    obtain ⟨rfl, rfl, rfl⟩ := hcs
    simp only [if_true] at hm
    subst hm
    have each : ∀ i, i < len → ∃ v : Nat → Value, (∀ j, j < fs.size → W.cell? (a.add (i * fs.size + j)) = some (v j)) ∧ ∀ j f, fs[j]? = some f → ∃ m y, DataW.trod enc P W base (fun _ => true) held m f.type [v j] = some y ∧ ∀ n ∈ y.1.weights P f.type, n ∈ x.1.weights P t := by
      intro i hlt
      obtain ⟨cs', hcells, htr⟩ := hi i (by omega)
      obtain ⟨_, hlen, hcell⟩ := World.cells?_some hcells
      rw [hC] at hlen hcell
      obtain ⟨xs, n', _, hxd, _, hxl, hf⟩ := DataW.trod_struct he htr
      have hxD : D i = .agg (xs.map (·.1)) := congrArg (·.1) hxd
      have hmem : D i ∈ (List.range len).map D := List.mem_map.2 ⟨i, List.mem_range.2 hlt, rfl⟩
      refine ⟨fun j => cs'.getD j undef, fun j hj => ?_, fun j f hjf => ?_⟩
      · have := hcell j hj
        rw [Deep.add_add] at this
        rw [this]; show cs'[j]? = some (cs'.getD j undef); rw [List.getD_eq_getElem?_getD, List.getElem?_eq_getElem (by omega)]; rfl
      · have hlt' : j < fs.size := (Array.getElem?_eq_some_iff.1 hjf).1
        obtain ⟨ho, hc1⟩ := hone j f hjf
        have g := hf j f hjf
        rw [ho, hc1, Deep.take1_drop cs' j undef (by omega), List.getElem?_eq_getElem (by omega)] at g
        refine ⟨n', _, g, fun n hn => ?_⟩
        rw [hx]
        refine weights_slice ht hmem n ?_
        rw [hxD, weights_agg he]
        exact DataW.weights_mem_each (j := j) (by rw [List.getElem?_map, Array.getElem?_toList, hjf]; rfl) (by rw [List.getElem?_map, List.getElem?_eq_getElem (by omega)]; rfl) n hn
    have : Inhabited (Nat → Value) := ⟨fun _ => undef⟩
    obtain ⟨V, hV⟩ := Deep.choose_lt each
    exact ⟨V, row_of_cells hpos (fun i hlt j hj => (hV i hlt).1 j hj), hl, hc, (fun e => by cases e), fun i hlt j f hjf => (hV i hlt).2 j f hjf⟩
theorem cell_int {m : Nat} {t : TypeId} {k : IntKind} {v : Value} {y : DataW H × List MemPlace} (ht : P.underlying t = some (.int k)) (h : DataW.trod enc P W base (fun _ => true) held m t [v] = some y) : ∃ n, v = .int k n ∧ (Lit.int k n).wf = true := by
  obtain ⟨n, h1, _, h2⟩ := DataW.trod_int ht h
  exact ⟨n, by simpa using h1, h2⟩
theorem cell_string {m : Nat} {t : TypeId} {v : Value} {y : DataW H × List MemPlace} (ht : P.underlying t = some .string) (h : DataW.trod enc P W base (fun _ => true) held m t [v] = some y) {B : Nat} (hB : ∀ n ∈ y.1.weights P t, n ≤ B) : ∃ s : ByteArray, v = .string s ∧ s.size ≤ B := by
  obtain ⟨s, h1, h3, h2⟩ := DataW.trod_string ht h
  exact ⟨s, by simpa using h1, hB _ (by rw [h3]; simp [DataW.weights])⟩
theorem flat_one (f : Nat → Value) : ∀ l : List Nat, (l.flatMap fun i => (List.range 1).map fun _ => f i) = l.map f
  | [] => rfl
  | i :: l => by rw [List.flatMap_cons, flat_one f l]; rfl
theorem open_texts {t e : TypeId} {A : Option Addr} {len cap : Nat} {x : DataW H × List MemPlace} (ht : P.underlying t = some (.slice e)) (he : P.underlying e = some .string) (hC : P.cellsOf e = 1) (h : DataW.trod enc P W base (fun _ => true) held fuel t [.slice A len cap] = some x) {B : Nat} (hB : ∀ n ∈ x.1.weights P t, n ≤ B) :
    ∃ ss : List (List UInt8), ss.length = len ∧ Row W A (ss.map fun s => .string (str s)) ∧ len ≤ cap ∧ cap ≤ maxLen ∧ (A = none → cap = 0) ∧ ∀ s ∈ ss, s.length ≤ B := by
  rcases Deep.open_slice ht h with ⟨hcs, _⟩ | ⟨a, l, c, m, n, D, Pl, hcs, hb, hl, hc, hm, hx, hi⟩
  · simp only [List.cons.injEq, Value.slice.injEq, and_true] at hcs
    obtain ⟨rfl, rfl, rfl⟩ := hcs
    exact ⟨[], rfl, Row.nil _ _, Nat.le_refl _, by simp [maxLen], (fun _ => rfl), fun s hs => by cases hs⟩
  · simp only [List.cons.injEq, Value.slice.injEq, and_true] at hcs
    obtain ⟨rfl, rfl, rfl⟩ := hcs
    simp only [if_true] at hm
    subst hm
    have each : ∀ i, i < len → ∃ s : List UInt8, W.cell? (a.add (i * 1 + 0)) = some (.string (str s)) ∧ s.length ≤ B := by
      intro i hlt
      have hmem : D i ∈ (List.range len).map D := List.mem_map.2 ⟨i, List.mem_range.2 hlt, rfl⟩
      obtain ⟨cs', hcells, htr⟩ := hi i (by omega)
      obtain ⟨_, hlen, hcell⟩ := World.cells?_some hcells
      rw [hC] at hlen hcell
      obtain ⟨s, rfl, hd, hs⟩ := DataW.trod_string he htr
      have := hcell 0 (by omega)
      rw [Deep.add_add] at this
      refine ⟨sl s, by rw [this]; rfl, ?_⟩
      rw [sl_length]
      refine hB _ ?_
      rw [hx]
      refine weights_slice ht hmem _ ?_
      rw [show D i = .lit (.string s.data.toList) from congrArg (·.1) hd]
      simp [DataW.weights]
    obtain ⟨V, hV⟩ := Deep.choose_lt each
    refine ⟨(List.range len).map V, by simp, ?_, hl, hc, (fun e => by cases e), fun s hs => ?_⟩
    · have := row_of_cells (W := W) (A := a) (len := len) (k := 1) (V := fun i _ => .string (str (V i))) (by decide) (fun i hlt j hj => by
        obtain rfl : j = 0 := by omega
        exact (hV i hlt).1)
      rw [flat_one] at this
      rw [List.map_map]
      exact this
    · obtain ⟨i, hi', rfl⟩ := List.mem_map.1 hs
      exact (hV i (List.mem_range.1 hi')).2
end
structure CallI where
  kind : Int
  key : List UInt8
  nonce : List UInt8
  aad : List UInt8
  text : List UInt8
  n : Int
def CallI.cells (c : CallI) : List Value := [.int .i64 c.kind, .string (str c.key), .string (str c.nonce), .string (str c.aad), .string (str c.text), .int .i64 c.n]
theorem CallI.length (c : CallI) : c.cells.length = 6 := rfl
def CallI.ok (c : CallI) : Prop := (Lit.int .i64 c.kind).wf = true ∧ (Lit.int .i64 c.n).wf = true ∧ c.key.length ≤ 140737488355328 ∧ c.nonce.length ≤ 140737488355328 ∧ c.aad.length ≤ 140737488355328 ∧ c.text.length ≤ 140737488355328
instance : Inhabited CallI := ⟨⟨0, [], [], [], [], 0⟩⟩
end Go.Proofs.YtiimfhacnfdmhaaGreat.Kit
namespace Go.Proofs.YtiimfhacnfdmhaaGreat.Rec
open Go Go.RowKit Kit
def Rec.ok (r : Rec) : Prop := (Lit.int .i64 r.kind).wf = true ∧ (Lit.int .i64 r.queue).wf = true ∧ (Lit.int .i64 r.id).wf = true ∧ (Lit.int .i64 r.num).wf = true ∧ (Lit.int .i64 r.wait).wf = true ∧ r.body.length ≤ 140737488355328
instance : Inhabited Rec := ⟨⟨0, 0, 0, 0, 0, []⟩⟩
theorem open_records {H : Type} {enc : TypeId × Value → H} {P : Program} {W : World} {base : Nat} {held : Bool} {fuel : Nat} {t e : TypeId} {fs : Array Field} {A : Option Addr} {len cap : Nat} {x : DataW H × List MemPlace} (ht : P.underlying t = some (.slice e)) (he : P.underlying e = some (.struct fs))
    (hone : ∀ (i : Nat) (f : Field), fs[i]? = some f → f.offset = i ∧ P.cellsOf f.type = 1) (hC : P.cellsOf e = fs.size) (f0 f1 f2 f3 f4 f5 : Field) (hf : fs = #[f0, f1, f2, f3, f4, f5])
    (h0 : P.underlying f0.type = some (.int .i64)) (h1 : P.underlying f1.type = some (.int .i64)) (h2 : P.underlying f2.type = some (.int .i64)) (h3 : P.underlying f3.type = some (.int .i64)) (h4 : P.underlying f4.type = some (.int .i64)) (h5 : P.underlying f5.type = some .string)
    (h : DataW.trod enc P W base (fun _ => true) held fuel t [.slice A len cap] = some x) (hB : ∀ n ∈ x.1.weights P t, n ≤ 140737488355328) :
    ∃ cs : List Rec, cs.length = len ∧ Row W A (cs.flatMap rcells) ∧ len ≤ cap ∧ cap ≤ maxLen ∧ (A = none → cap = 0) ∧ ∀ c ∈ cs, c.ok := by
  have hsz : fs.size = 6 := by rw [hf]; rfl
  obtain ⟨V, hr, hl, hc, hn, hV⟩ := open_recs ht he hone hC (by omega) h
  have each : ∀ i, i < len → ∃ c : Rec, (List.range 6).map (V i) = rcells c ∧ c.ok := by
    intro i hi
    have g := hV i hi
    rw [hf] at g
    obtain ⟨_, _, g0, b0⟩ := g 0 f0 rfl; obtain ⟨_, _, g1, b1⟩ := g 1 f1 rfl; obtain ⟨_, _, g2, b2⟩ := g 2 f2 rfl
    obtain ⟨_, _, g3, b3⟩ := g 3 f3 rfl; obtain ⟨_, _, g4, b4⟩ := g 4 f4 rfl; obtain ⟨_, _, g5, b5⟩ := g 5 f5 rfl
    obtain ⟨k, e0, w0⟩ := cell_int h0 g0; obtain ⟨q, e1, w1⟩ := cell_int h1 g1; obtain ⟨d, e2, w2⟩ := cell_int h2 g2
    obtain ⟨n, e3, w3⟩ := cell_int h3 g3; obtain ⟨u, e4, w4⟩ := cell_int h4 g4; obtain ⟨s5, e5, w5⟩ := cell_string h5 g5 (fun n hn => hB _ (b5 n hn))
    refine ⟨⟨k, q, d, n, u, sl s5⟩, ?_, w0, w1, w2, w3, w4, by show (sl s5).length ≤ _; rw [sl_length]; exact w5⟩
    show [V i 0, V i 1, V i 2, V i 3, V i 4, V i 5] = _
    rw [e0, e1, e2, e3, e4, e5]; rfl
  obtain ⟨C, hC2⟩ := Deep.choose_lt each
  refine ⟨(List.range len).map C, by simp, ?_, hl, hc, hn, fun c hcm => ?_⟩
  · rw [hsz] at hr
    have e : ((List.range len).flatMap fun i => (List.range 6).map (V i)) = ((List.range len).map C).flatMap rcells := by
      rw [List.flatMap_map]
      exact Deep.flatMap_congr_range fun i hi => (hC2 i hi).1
    rwa [e] at hr
  · obtain ⟨i, hi, rfl⟩ := List.mem_map.1 hcm
    exact (hC2 i (List.mem_range.1 hi)).2
end Go.Proofs.YtiimfhacnfdmhaaGreat.Rec
namespace Go.Proofs.YtiimfhacnfdmhaaGreat.Seg
open Go Go.RowKit Kit
open Rec (Rec good ftot fsec split Rrow Sr SrOk rcells rec_under rec_size great_any greatR fSize fSectors fSplit fSame rec_info recs_und rcs_len rcs_one split_flat)
open Ideal (Ts Thing Arg Args)
open Vault
theorem great_no {rs : List Rec} {n : Nat} {most : Nat} (hl : rs.length = n) (hg : greatR rs most = false) : n ≤ most ∧ ∀ r ∈ rs, r.body.length ≤ 4096 := by
  unfold greatR at hg
  simp only [Bool.or_eq_false_iff, decide_eq_false_iff_not, List.any_eq_false, decide_eq_true_eq] at hg
  exact ⟨by have := hg.2; omega, fun r hr => by have := hg.1 r hr; omega⟩
theorem ftot_le (rs : List Rec) (h : ∀ r ∈ rs, r.body.length ≤ 4096) : ftot rs ≤ 48 + rs.length * 4159 := by
  induction rs with
  | nil => simp [ftot]
  | cons r rs ih =>
    have h1 := h r (by simp)
    have h2 := ih (fun q hq => h q (by simp [hq]))
    have hf : ftot (r :: rs) = 63 + r.body.length + ftot rs := by simp [ftot]; omega
    rw [hf, List.length_cons]; omega
theorem len_flat (l : List (List Rec)) (k : Nat) (hk : k < l.length) : ((l.take (k + 1)).flatten) = (l.take k).flatten ++ l[k] := by
  rw [List.take_add_one, List.getElem?_eq_getElem hk, List.flatten_append]
  simp only [Option.toList_some, List.flatten_cons, List.flatten_nil, List.append_nil]
theorem flat_le (l : List (List Rec)) (k : Nat) : ((l.take k).flatten).length ≤ l.flatten.length := by
  conv => rhs; rw [← List.take_append_drop k l]
  rw [List.flatten_append, List.length_append]; omega
theorem sr_at {w : World} {X : Option Addr} {ps : List Sr} (h : Row w X (ps.map Sr.v)) (k : Nat) (hk : k < ps.length) : ∃ b o, X = some ⟨b, o, none⟩ ∧ b < w.heap.size ∧ w.cell? ⟨b, o + k, none⟩ = some (.slice ps[k].A ps[k].n ps[k].c) := by
  obtain ⟨b, o, h1, h2, h3⟩ := h.at_ (i := k) (by simpa using hk)
  exact ⟨b, o, h1, h2, by simpa [Sr.v] using h3⟩
set_option maxHeartbeats 4000000 in
set_option maxRecDepth 100000 in
theorem sizes_walk [Inhabited Sha.ShaTab] [Inhabited Field.SqTab] (pk : PackF) (hP : PackC pk) (hS : PackS pk) (hSec : SectorsC) (hLen : LengthC) (hSize : SizeC) (hSplit : SplitC) (A : Option Addr) (n c : Nat) (rs : List Rec) (w : World) (hl : rs.length = n) (hn : A = none → c = 0) (hr : Row w A (rs.flatMap rcells)) (hc : n ≤ c) (hm : c ≤ maxLen) :
    Calls Tryz.prog 3 #[.slice A n c] w fun e w' => e = .returned (.bool true) ∧ Kp nob w w' := by
  have HR := Lib.hid (show Rrow w A rs from hr)
  have HLN := Lib.hid hl; have HC := Lib.hid hc; have HM := Lib.hid hm; have HNN := Lib.hid hn
  clear hr hl hn hm
  have HAL := Lib.hid (fun w => alive_yes pk hP hS hSec hLen w)
  have hgr := fun w' (k : Kp nob w w') => great_any A n c rs 60 w' HLN.out (HR.out.keep0 k) (by have := HC.out; have := HM.out; omega)
  cases hg : greatR rs 60 with
  | true =>
    rw [hg] at hgr
    go_enter Tryz.func3, Tryz.ntmps3
    go_wp2_with fail
    refine (HAL.out _).mono ?_
    rintro e w1 ⟨rfl, k1⟩
    go_wp2_with fail
    refine (hgr w1 k1).mono ?_
    rintro e w2 ⟨rfl, k2⟩
    go_wp2
    go_ret
    exact ⟨rfl, k1.trans k2 (fun _ e => e.elim)⟩
  | false =>
  rw [hg] at hgr
  obtain ⟨h60, hbd⟩ := great_no (most := 60) HLN.out hg
  have hft : ftot rs ≤ 1000000 := by have := ftot_le rs hbd; rw [HLN.out] at this; omega
  have H60 := Lib.hid h60; have HFT := Lib.hid hft
  clear hg hbd hft
  go_enter Tryz.func3, Tryz.ntmps3
  go_wp2_with fail
  refine (HAL.out _).mono ?_
  rintro e w1 ⟨rfl, k1⟩
  go_wp2_with fail
  refine (hgr w1 k1).mono ?_
  rintro e w2 ⟨rfl, k2⟩
  have HK2 := Lib.hid (k1.trans k2 (fun _ e => e.elim))
  clear hgr k1 k2
  go_wp2_with fail
  refine (hSize A n c rs w2 HLN.out (HR.out.keep0 HK2.out) (by have := HFT.out; omega) (by omega)).mono ?_
  rintro e w3 ⟨rfl, k3⟩
  have HK3 := Lib.hid (HK2.out.trans k3 (fun _ e => e.elim)); clear k3
  go_wp2_with fail
  refine (fSize A n c rs w3 HLN.out (HR.out.keep0 HK3.out) (by have := HFT.out; omega) (by simp [maxLen]; omega)).mono ?_
  rintro e w4 ⟨rfl, k4⟩
  have HK4 := Lib.hid (HK3.out.trans k4 (fun _ e => e.elim)); clear k4
  obtain ⟨T, hT⟩ : ∃ T, T = ftot rs := ⟨_, rfl⟩
  rw [← hT]
  go_wp2_with fail
  refine (hSec A n c rs w4 HLN.out (HR.out.keep0 HK4.out) (by have := HFT.out; omega) (by omega)).mono ?_
  rintro e w5 ⟨rfl, k5⟩
  have HK5 := Lib.hid (HK4.out.trans k5 (fun _ e => e.elim)); clear k5
  go_wp2_with fail
  refine (fSectors A n c rs w5 HLN.out (HR.out.keep0 HK5.out) (by have := HFT.out; omega) (by simp [maxLen]; omega)).mono ?_
  rintro e w6 ⟨rfl, k6⟩
  have HK6 := Lib.hid (HK5.out.trans k6 (fun _ e => e.elim)); clear k6
  obtain ⟨U, hU⟩ : ∃ U, U = fsec rs := ⟨_, rfl⟩
  rw [← hU]
  go_wp2_with fail
  refine (hSplit A n c rs w6 HLN.out (HR.out.keep0 HK6.out) (by have := HFT.out; omega) (by omega) HNN.out HC.out HM.out).mono ?_
  rintro e w7 ⟨X, nx, cx, ps, rfl, hpl, hpr, hps, hpo, k7⟩
  have HK7 := Lib.hid (HK6.out.trans k7 (fun _ e => e.elim)); clear k7
  go_wp2_with fail
  refine (fSplit A n c rs w7 HLN.out (HR.out.keep0 HK7.out) (by have := HFT.out; omega) (by omega)).mono ?_
  rintro e w8 ⟨Y, ny, cy, qs, rfl, hql, hqr, hqs, hqo, k8⟩
  have HK8 := Lib.hid (HK7.out.trans k8 (fun _ e => e.elim))
  have hnn : nx = ny := by rw [← hpl, ← hql]; have := congrArg List.length (hps.trans hqs.symm); simpa using this
  subst hnn
  have HPS : Hid (ps.length = nx ∧ Row w8 X (ps.map Sr.v) ∧ ps.map (·.rs) = split rs ∧ ∀ p ∈ ps, SrOk w8 p) := Lib.hid ⟨hpl, hpr.keep0 k8, hps, fun p hp => (hpo p hp).keep0 k8⟩
  have HQS : Hid (qs.length = nx ∧ Row w8 Y (qs.map Sr.v) ∧ qs.map (·.rs) = split rs ∧ ∀ p ∈ qs, SrOk w8 p) := Lib.hid ⟨hql, hqr, hqs, hqo⟩
  have hnx : nx ≤ 60 := by
    have h1 := Rec.splA_len rs
    have h2 : (split rs).length ≤ rs.length := by
      unfold Rec.split
      split
      · omega
      · rename_i e
        have := List.length_pos_iff.2 e
        simp; omega
    have h3 := congrArg List.length HPS.out.2.2.1
    have h4 := HLN.out; have h5 := H60.out; have h6 := HPS.out.1
    simp only [List.length_map] at h3
    omega
  have HNX := Lib.hid hnx
  clear hpl hpr hps hpo hql hqr hqs hqo k8 hT hU h60
  go_wp2
  go_loopw [5, 34] (fun all i wr => ∃ k : Nat, k ≤ nx ∧ i = .int .i64 k ∧ ∃ (Z : Option Addr) (nz cz : Nat), all = .slice Z nz cz ∧ OwnK 6 34 wr Z nz cz (((split rs).take k).flatten.flatMap rcells) ∧ nz = ((split rs).take k).flatten.length ∧ Kp nob w8 wr ∧ ∀ j, ab Z = some j → w8.heap.size ≤ j)
    (fun _ i _ => nx - (intOf i).toNat)
  case atStart => exact ⟨0, Nat.zero_le _, rfl, none, 0, 0, rfl, by simpa using OwnK.nil 6 34 w8, by simp, Kp.refl _ _, fun j e => by cases e⟩
  case round =>
    obtain ⟨k, hk, rfl, Z, nz, cz, rfl, hown, hnz, kr, hz⟩ := hrel
    by_cases hlt : k < nx
    · have hk1 : k < ps.length := by rw [HPS.out.1]; exact hlt
      have hk2 : k < qs.length := by rw [HQS.out.1]; exact hlt
      obtain ⟨bx, ox, rfl, hbx, hcx⟩ := sr_at (HPS.out.2.1.keep0 kr) k hk1
      obtain ⟨by', oy, rfl, hby, hcy⟩ := sr_at (HQS.out.2.1.keep0 kr) k hk2
      obtain ⟨p, hp⟩ : ∃ p, p = ps[k] := ⟨_, rfl⟩
      obtain ⟨q, hq⟩ : ∃ q, q = qs[k] := ⟨_, rfl⟩
      rw [← hp] at hcx
      rw [← hq] at hcy
      have hpo := (HPS.out.2.2.2 p (by rw [hp]; exact List.getElem_mem hk1))
      have hqo := (HQS.out.2.2.2 q (by rw [hq]; exact List.getElem_mem hk2))
      have hpk : k < (split rs).length := by have h2 := congrArg List.length HPS.out.2.2.1; simp only [List.length_map] at h2; omega
      have hprs : p.rs = (split rs)[k] := by
        have h1 : (ps.map (·.rs))[k]? = (split rs)[k]? := by rw [HPS.out.2.2.1]
        rw [List.getElem?_map, List.getElem?_eq_getElem hk1, List.getElem?_eq_getElem hpk, ← hp] at h1
        exact Option.some.inj h1
      have hqrs : q.rs = (split rs)[k] := by
        have h1 : (qs.map (·.rs))[k]? = (split rs)[k]? := by rw [HQS.out.2.2.1]
        rw [List.getElem?_map, List.getElem?_eq_getElem hk2, List.getElem?_eq_getElem hpk, ← hq] at h1
        exact Option.some.inj h1
      have HSN := Lib.hid (len_flat (split rs) k hpk)
      rw [← hprs] at HSN
      have HPN : Hid (p.rs.length = p.n ∧ nz + p.n ≤ 60) := Lib.hid (by
        have h1 := flat_le (split rs) (k + 1)
        rw [split_flat, HSN.out, List.length_append, ← hnz, HLN.out] at h1
        have h2 := hpo.len; have h3 := H60.out
        exact ⟨h2, by omega⟩)
      have HPO := Lib.hid (hpo.keep0 kr); have HQO := Lib.hid (hqo.keep0 kr)
      have hsame := fun w' (k' : Kp nob wr w') => fSame p.A p.n p.c p.rs q.A q.n q.c q.rs w' HPO.out.len (HPO.out.row.keep0 k') (Nat.le_trans HPO.out.cap HPO.out.mx) HQO.out.len (HQO.out.row.keep0 k')
      rw [hprs, hqrs, decide_eq_true rfl] at hsame
      have HSM := Lib.hid hsame
      have HOWN := Lib.hid hown; have HKR := Lib.hid kr; have HZ := Lib.hid hz; have HNZ := Lib.hid hnz
      have HCX : Hid (∀ w', Kp nob wr w' → w'.cell? ⟨bx, ox + k, none⟩ = some (.slice p.A p.n p.c)) := Lib.hid (fun w' k' => by rw [k'.cell (p := ⟨bx, ox + k, none⟩) hbx (fun e => e)]; exact hcx)
      have HCY : Hid (∀ w', Kp nob wr w' → w'.cell? ⟨by', oy + k, none⟩ = some (.slice q.A q.n q.c)) := Lib.hid (fun w' k' => by rw [k'.cell (p := ⟨by', oy + k, none⟩) hby (fun e => e)]; exact hcy)
      have HZA : Hid (∀ j, ab p.A = some j → j < w8.heap.size) := Lib.hid hpo.lt
      clear hown kr hz hnz hsame hprs hqrs hp hq hcx hcy hpo hqo hk1 hk2 hpk
      obtain ⟨ir, hr1, hr2, hr3, hr4⟩ := rec_info
      go_wp2
      refine reg_begin (fun w' => Kp nob wr w') (by kernel_rfl) ((Kp.refl nob wr).drew) (fun _ => ?_)
      refine reg_take (v := .slice (some ⟨bx, ox, none⟩) nx cx) 0 (some 37) rfl rfl (by kernel_rfl) (by kernel_rfl) (by kernel_rfl) (by rfl) ((Kp.refl nob wr).drew) (fun w' hw => by go_simp) ?_
      simp only [Act.put, List.setIfInBounds_toArray, List.set_cons_zero, List.set_cons_succ]
      refine reg_take (v := .int .i64 k) 1 (some 38) rfl rfl (by kernel_rfl) (by kernel_rfl) (by kernel_rfl) (by rfl) ((Kp.refl nob wr).drew) (fun w' hw => by go_simp) ?_
      simp only [Act.put, List.setIfInBounds_toArray, List.set_cons_zero, List.set_cons_succ]
      refine reg_take (v := .pointer (some ⟨bx, ox + k, none⟩)) 2 (some 39) rfl rfl (by kernel_rfl) (by kernel_rfl) (by kernel_rfl) (by rfl) ((Kp.refl nob wr).drew) (fun w' hw => by go_simp) ?_
      simp only [Act.put, List.setIfInBounds_toArray, List.set_cons_zero, List.set_cons_succ]
      refine reg_take (v := .slice p.A p.n p.c) 3 (some 40) rfl rfl (by kernel_rfl) (by kernel_rfl) (by kernel_rfl) (by rfl) ((Kp.refl nob wr).drew) (fun w' hw => by have hc := HCX.out w' hw; go_simp) ?_
      simp only [Act.put, List.setIfInBounds_toArray, List.set_cons_zero, List.set_cons_succ]
      refine reg_take (v := .slice (some ⟨by', oy, none⟩) nx cy) 4 (some 41) rfl rfl (by kernel_rfl) (by kernel_rfl) (by kernel_rfl) (by rfl) ((Kp.refl nob wr).drew) (fun w' hw => by go_simp) ?_
      simp only [Act.put, List.setIfInBounds_toArray, List.set_cons_zero, List.set_cons_succ]
      refine reg_take (v := .int .i64 k) 5 (some 42) rfl rfl (by kernel_rfl) (by kernel_rfl) (by kernel_rfl) (by rfl) ((Kp.refl nob wr).drew) (fun w' hw => by go_simp) ?_
      simp only [Act.put, List.setIfInBounds_toArray, List.set_cons_zero, List.set_cons_succ]
      refine reg_take (v := .pointer (some ⟨by', oy + k, none⟩)) 6 (some 43) rfl rfl (by kernel_rfl) (by kernel_rfl) (by kernel_rfl) (by rfl) ((Kp.refl nob wr).drew) (fun w' hw => by go_simp) ?_
      simp only [Act.put, List.setIfInBounds_toArray, List.set_cons_zero, List.set_cons_succ]
      refine reg_take (v := .slice q.A q.n q.c) 7 (some 44) rfl rfl (by kernel_rfl) (by kernel_rfl) (by kernel_rfl) (by rfl) ((Kp.refl nob wr).drew) (fun w' hw => by have hc := HCY.out w' hw; go_simp) ?_
      simp only [Act.put, List.setIfInBounds_toArray, List.set_cons_zero, List.set_cons_succ]
      refine reg_call 8 (some 45) rfl rfl (by kernel_rfl) (by rfl) _ _ (exec_func 17 _ _ [.slice p.A p.n p.c, .slice q.A q.n q.c] rfl (by kernel_rfl) rfl) ?_
      refine (HSM.out _ ((Kp.refl nob wr).drew)).mono ?_
      rintro e w9 ⟨rfl, k9⟩
      have HK9 : Hid (Kp nob wr w9) := Lib.hid ((Kp.refl nob wr).drew.trans k9 (fun _ e => e.elim))
      clear k9
      refine ⟨_, rfl, HK9.out, fun _ => ?_⟩
      simp only [Act.put, List.setIfInBounds_toArray, List.set_cons_zero, List.set_cons_succ]
      refine reg_take (v := .bool false) 9 (some 46) rfl rfl (by kernel_rfl) (by kernel_rfl) (by kernel_rfl) (by rfl) HK9.out (fun w' hw => by go_simp) ?_
      simp only [Act.put, List.setIfInBounds_toArray, List.set_cons_zero, List.set_cons_succ]
      refine reg_end (by kernel_rfl) ?_
      have hc9 := HCX.out w9 HK9.out
      go_wp2_with (first
        | (refine wpList_appZ _ rfl (.tmp 47) (.tmp 51) 22 rfl 34 ir _ 6 56 recs_und hr1 hr2 hr3 hr4 rfl (by decide) Z nz cz _ rfl (HOWN.out.keep HK9.out (fun _ _ e => e)) p.A p.n p.c (p.rs.flatMap rcells) rfl (fun e => by have h1 := HPO.out.nil e; have h2 := HPO.out.cap; omega) (by rw [rcs_len, HPN.out.1]) (HPO.out.row.keep0 HK9.out) (rcs_one _) (by have := HPN.out.2; omega) (by have := HPN.out.2; omega) ?_; intro Z2 c2z w10 ho10 hg10 ha10; have HO10 := Lib.hid ho10; have HG10 := Lib.hid hg10; have HA10 := Lib.hid ha10; clear ho10 hg10 ha10)
        | fail)
      go_roundw
      case rel =>
        have hkb := HNX.out
        refine ⟨k + 1, by omega, by go_num, Z2, nz + p.n, c2z, rfl, ?_, ?_, (HKR.out.trans HK9.out (fun _ e => e.elim)).grown HG10.out (fun j hj => .inr (HZ.out j hj)), fun j hj => ?_⟩
        · rw [HSN.out, List.flatMap_append]; exact HO10.out
        · rw [HSN.out, List.length_append, HPN.out.1, HNZ.out]
        · rcases HA10.out with e | e
          · exact HZ.out j (by rw [← e]; exact hj)
          · rw [e] at hj; cases hj
            have h1 := HKR.out.size; have h2 := HK9.out.size; omega
      case measure => have hkb := HNX.out; simp [intOf]; omega
    · obtain rfl : k = nx := by omega
      have hall : (split rs).take k = split rs := List.take_of_length_le (by have h1 := HPS.out.1; have h2 := congrArg List.length HPS.out.2.2.1; simp only [List.length_map] at h2; omega)
      rw [hall, split_flat] at hown hnz
      have HSM := Lib.hid (fSame Z nz cz rs A n c rs wr (by rw [hnz]) hown.row (by rw [hnz, HLN.out]; have := H60.out; simp [maxLen]; omega) HLN.out (HR.out.keep0 (HK8.out.trans kr (fun _ e => e.elim))))
      have HKR := Lib.hid (HK8.out.trans kr (fun _ e => e.elim))
      rw [decide_eq_true rfl] at HSM
      clear hown hnz kr hz hall
      go_wp2_with fail
      refine HSM.out.mono ?_
      rintro e w9 ⟨rfl, k9⟩
      go_wp2
      go_ret
      exact ⟨rfl, HKR.out.trans k9 (fun _ e => e.elim)⟩
end Go.Proofs.YtiimfhacnfdmhaaGreat.Seg
namespace Go.Proofs.YtiimfhacnfdmhaaGreat.Seg
open Go Go.RowKit Kit
open Rec (Rec good ftot fsec split Rrow Sr SrOk rcells rec_under rec_size great_any greatR dGood ftot_snoc ftot_take)
open Ideal (Ts Thing Arg Args zc zc_run zc_length zc_eq z32)
open Vault
theorem rrow_far {w : World} {A : Option Addr} {rs : List Rec} (h : Rrow w A rs) : rs = [] ∨ ∀ i, ab A = some i → i < w.heap.size := by
  by_cases e : rs = []
  · exact .inl e
  · refine .inr (Row.lt h (fun e2 => ?_))
    have h1 := congrArg List.length e2
    rw [Rec.rcs_len] at h1
    have := List.length_pos_iff.2 e
    simp only [List.length_nil] at h1; omega
theorem drop_at (rs : List Rec) (k : Nat) (h : k < rs.length) : rs.drop k = rs[k] :: rs.drop (k + 1) := List.drop_eq_getElem_cons h
set_option maxHeartbeats 4000000 in
set_option maxRecDepth 100000 in
theorem errors_walk [Inhabited Sha.ShaTab] [Inhabited Field.SqTab] (pk : PackF) (hP : PackC pk) (hS : PackS pk) (hSec : SectorsC) (hLen : LengthC) (epoch seq limit : Int) (A : Option Addr) (n c : Nat) (rs : List Rec) (w : World) (he : (Lit.int .i64 epoch).wf = true) (hs : (Lit.int .i64 seq).wf = true) (hlm : (Lit.int .i64 limit).wf = true)
    (hl : rs.length = n) (hn : A = none → c = 0) (hr : Row w A (rs.flatMap rcells)) (hc : n ≤ c) (hm : c ≤ maxLen) :
    Calls Tryz.prog 6 #[.int .i64 epoch, .int .i64 seq, .int .i64 limit, .slice A n c] w fun e w' => e = .returned (.bool true) ∧ Kp nob w w' := by
  have HR := Lib.hid (show Rrow w A rs from hr)
  have HLN := Lib.hid hl; have HC := Lib.hid hc; have HM := Lib.hid hm
  have HI := Lib.hid (And.intro (i64_range he) (And.intro (i64_range hs) (i64_range hlm)))
  clear hr hl hn hm hc he hs hlm
  have HAL := Lib.hid (fun w => alive_yes pk hP hS hSec hLen w)
  have hgr := fun w' (k : Kp nob w w') => great_any A n c rs 300 w' HLN.out (HR.out.keep0 k) (by have := HC.out; have := HM.out; omega)
  cases hg : greatR rs 300 with
  | true =>
    rw [hg] at hgr
    go_enter Tryz.func6, Tryz.ntmps6
    go_wp2_with fail
    refine (HAL.out _).mono ?_
    rintro e w1 ⟨rfl, k1⟩
    go_wp2_with fail
    refine (hgr w1 k1).mono ?_
    rintro e w2 ⟨rfl, k2⟩
    go_wp2
    go_ret
    exact ⟨rfl, k1.trans k2 (fun _ e => e.elim)⟩
  | false =>
  rw [hg] at hgr
  obtain ⟨h300, hbd⟩ := great_no (most := 300) HLN.out hg
  have hft : ftot rs ≤ 2000000 := by have := ftot_le rs hbd; rw [HLN.out] at this; omega
  have H300 := Lib.hid h300; have HFT := Lib.hid hft; have HBD := Lib.hid hbd
  clear hg hbd hft
  go_enter Tryz.func6, Tryz.ntmps6
  go_wp2_with fail
  refine (HAL.out _).mono ?_
  rintro e w1 ⟨rfl, k1⟩
  go_wp2_with fail
  refine (hgr w1 k1).mono ?_
  rintro e w2 ⟨rfl, k2⟩
  have HK2 := Lib.hid (k1.trans k2 (fun _ e => e.elim))
  clear hgr k1 k2
  go_wp2_with fail
  refine (Ideal.new_i w2).mono ?_
  rintro e w3 ⟨p, F, rfl, hq⟩
  have HQ := Lib.hid hq; clear hq
  go_wp2_with (first
    | (refine wpList_built rfl 32 _ rfl (.agg (bvs z32).toArray) (by exact exec_build _ _ rfl [] _ rfl (z_build2 _)) ?_)
    | fail)
  refine (ideal_any p z32 limit w3 z32_len).mono ?_
  rintro e w4 ⟨v, m, rfl, hv, k4, n1, n2⟩
  have HV := Lib.hid (vx_ideal HQ.out hv k4 n1 n2)
  have HK4 := Lib.hid ((HK2.out.trans HQ.out.k (fun _ e => e.elim)).trans k4 (fun _ e => e.elim))
  have hs42 : w.heap.size ≤ w2.heap.size := HK2.out.size
  clear hv k4 n1 n2
  obtain ⟨L, hL⟩ : ∃ L, L = limit.toNat := ⟨_, rfl⟩
  rw [← hL] at HV
  have HP := Lib.hid (hP ⟨v, m, p, z32, L, w2.heap.size⟩ _ epoch seq z32 A n c rs w4 HV.out z32_len HLN.out (HR.out.keep0 HK4.out) ((rrow_far HR.out).imp id (fun h i e e2 => by have h1 := h i e; have h2 := HV.out.ge i e2; simp only at h2; omega)) (by omega) HBD.out (by simp [Ts.few]) trivial (Nat.zero_le _) HI.out.1 HI.out.2.1 (by rw [hL]; have := HI.out.2.2.2; simp only; omega))
  have hE := hS.err (.dream []) z32 L epoch seq z32 rs
  simp only at HP
  obtain ⟨R, hR⟩ : ∃ R, R = pk (.dream []) z32 L epoch seq z32 rs := ⟨_, rfl⟩
  rw [← hR] at HP hE
  obtain ⟨E, hEE⟩ : ∃ E, E = R.e := ⟨_, rfl⟩
  rw [← hEE] at HP hE
  have h32 : R.h.length = 32 := by rw [hR]; exact hS.h32 _ _ _ _ _ _ _ trivial z32_len
  have HRH := Lib.hid h32
  have HE := Lib.hid hE
  have HLL := Lib.hid hL
  clear hE hEE hR h32 hL
  have hz := zc_run
  by_cases h0 : n = 0
  · subst h0
    have hE1 : E = 1 := by rw [HE.out, List.eq_nil_of_length_eq_zero HLN.out]; rfl
    subst hE1
    go_wp2_with (first
      | (refine wpList_built rfl 32 _ rfl (.agg (bvs z32).toArray) (by exact exec_build _ _ rfl [] _ rfl (z_build2 _)) ?_)
      | (go_at_call 23; refine HP.out.mono ?_; rintro e w5 ⟨F2, P2, sl2, cl2, X, cX, rfl, hq, hcl, hA⟩; have HK5 : Hid (Kp nob w w5) := Lib.hid (HK4.out.trans hq.kp (fun i e => .inr (by have h2 := HV.out.ge i e; simp only at h2; omega))); have HB5 := Lib.hid (Blk.new w5 32 zc); clear hq hcl hA)
      | (refine wpList_store_blk rfl 32 (.tmp 11) (.tmp 33) rfl _ _ _ (bvs R.h) HB5.out rfl rfl (by rw [bvs_length, HRH.out, zc_length]) (by rw [bvs_length, HRH.out]; kernel_rfl) (bvs_one _) ?_; intro w6 hB6 k6 z6; have HK6 : Hid (Kp nob w w6) := Lib.hid ((HK5.out.alloc (.cells zc.toArray 32)).trans k6 (fun i e => .inr (by have e : i = w5.heap.size := e; have := HK5.out.size; omega))); clear hB6 k6 z6)
      | fail)
    go_loopw [13, 14, 40] (fun want size i wr => want = .int .i64 1 ∧ i = .int .i64 0 ∧ Kp nob w wr) (fun _ _ _ _ => 0)
    case atStart => exact ⟨rfl, rfl, HK6.out⟩
    case round =>
      obtain ⟨rfl, rfl, kr⟩ := hrel
      go_wp2
      go_ret
      exact ⟨rfl, kr⟩
  have hpos : 0 < n := by omega
  have hne : rs ≠ [] := fun e => by have := HLN.out; rw [e] at this; simp at this; omega
  have HEP : Hid (E = perrs L epoch seq 0 48 rs) := Lib.hid (by rw [HE.out, perr, if_neg hne])
  clear h0 hne HE
  go_wp2_with (first
    | (refine wpList_built rfl 32 _ rfl (.agg (bvs z32).toArray) (by exact exec_build _ _ rfl [] _ rfl (z_build2 _)) ?_)
    | (go_at_call 23; refine HP.out.mono ?_; rintro e w5 ⟨F2, P2, sl2, cl2, X, cX, rfl, hq, hcl, hA⟩; have HK5 : Hid (Kp nob w w5) := Lib.hid (HK4.out.trans hq.kp (fun i e => .inr (by have h2 := HV.out.ge i e; simp only at h2; omega))); have HB5 := Lib.hid (Blk.new w5 32 zc); clear hq hcl hA)
    | (refine wpList_store_blk rfl 32 (.tmp 11) (.tmp 33) rfl _ _ _ (bvs R.h) HB5.out rfl rfl (by rw [bvs_length, HRH.out, zc_length]) (by rw [bvs_length, HRH.out]; kernel_rfl) (bvs_one _) ?_; intro w6 hB6 k6 z6; have HK6 : Hid (Kp nob w w6) := Lib.hid ((HK5.out.alloc (.cells zc.toArray 32)).trans k6 (fun i e => .inr (by have e : i = w5.heap.size := e; have := HK5.out.size; omega))); clear hB6 k6 z6)
    | fail)
  go_loopw [13, 14, 40] (fun want size i wr => ∃ k : Nat, k ≤ n ∧ i = .int .i64 k ∧ want = .int .i64 0 ∧ size = .int .i64 (ftot (rs.take k) : Nat) ∧ E = perrs L epoch seq k (ftot (rs.take k)) (rs.drop k) ∧ Kp nob w wr)
    (fun _ _ i _ => n - (intOf i).toNat)
  case atStart => exact ⟨0, Nat.zero_le _, rfl, rfl, rfl, by rw [HEP.out]; rfl, HK6.out⟩
  case round =>
    obtain ⟨k, hk, rfl, rfl, rfl, hEk, kr⟩ := hrel
    by_cases hlt : k < n
    · have hk2 : k < rs.length := by rw [HLN.out]; exact hlt
      obtain ⟨bb, oo, rfl, hbb, hc0, hc1, hc2, hc3, hc4, hc5⟩ := (HR.out.keep0 kr).at_ (i := k) hk2
      have hsn := ftot_snoc rs k hk2
      have htk := ftot_take rs (k + 1)
      have hbl := HBD.out (rs[k]'hk2) (List.getElem_mem hk2)
      rw [drop_at rs k hk2, perrs_cons] at hEk
      obtain ⟨p, hpe⟩ : ∃ p, p = rs[k]'hk2 := ⟨_, rfl⟩
      rw [← hpe] at hc0 hc1 hc2 hc3 hc4 hc5 hsn hEk hbl
      obtain ⟨T, hTe⟩ : ∃ T, T = ftot (rs.take k) := ⟨_, rfl⟩
      rw [← hTe] at hsn hEk ⊢
      have hft := HFT.out
      have hT2 : T ≤ 2000000 := by omega
      have HSN := Lib.hid hsn; have HEK := Lib.hid hEk; have HKR := Lib.hid kr
      clear hpe hTe hsn htk hEk hft kr
      go_wp2_with fail
      refine (dGood p _).mono ?_
      rintro e w7 ⟨rfl, k7⟩
      have HK7 : Hid (Kp nob w w7) := Lib.hid ((HKR.out.alloc (.cells #[.int .i64 p.kind, .int .i64 p.queue, .int .i64 p.id, .int .i64 p.num, .int .i64 p.wait, .string (str p.body)] 34)).trans k7 (fun _ e => e.elim))
      clear k7 hc0 hc1 hc2 hc3 hc4 hc5
      cases hg : good p with
      | false =>
        have hE1 : E = 1 := by
          have h1 : perr1 L epoch seq k T p = 1 := by unfold perr1; rw [if_pos hg]
          have := HEK.out
          rw [h1] at this
          rw [if_neg (by omega)] at this
          exact this
        subst hE1
        go_wp2
        go_ret
        exact ⟨rfl, HK7.out⟩
      | true =>
        have HG := Lib.hid hg
        clear hg
        by_cases hbig : 16384 < T + 63 + p.body.length
        · have hE1 : E = 3 := by
            have h1 : perr1 L epoch seq k T p = 3 := by unfold perr1; rw [if_neg (by rw [HG.out]; simp), if_pos hbig]
            have := HEK.out
            rw [h1] at this
            rw [if_neg (by omega)] at this
            exact this
          subst hE1
          go_wp2
          go_ret
          exact ⟨rfl, HK7.out⟩
        have hsm : T + 63 + p.body.length ≤ 16384 := by omega
        have HSMb := Lib.hid hbig
        clear hbig
        by_cases h1 : epoch < 0
        · have hE1 : E = 1 := by
            have h1 : perr1 L epoch seq k T p = 1 := by unfold perr1; rw [if_neg (by rw [HG.out]; simp), if_neg (by omega), if_pos (.inl h1)]
            have := HEK.out
            rw [h1] at this
            rw [if_neg (by omega)] at this
            exact this
          subst hE1
          go_wp2
          go_ret
          exact ⟨rfl, HK7.out⟩
        by_cases h2 : seq < 0
        · have hE1 : E = 1 := by
            have h1 : perr1 L epoch seq k T p = 1 := by unfold perr1; rw [if_neg (by rw [HG.out]; simp), if_neg (by omega), if_pos (.inr h2)]
            have := HEK.out
            rw [h1] at this
            rw [if_neg (by omega)] at this
            exact this
          subst hE1
          go_wp2
          go_ret
          exact ⟨rfl, HK7.out⟩
        by_cases h3 : 4294967296 ≤ epoch
        · have hE1 : E = 10 := by
            have h1 : perr1 L epoch seq k T p = 10 := by unfold perr1; rw [if_neg (by rw [HG.out]; simp), if_neg (by omega), if_neg (by omega), if_pos (.inl h3)]
            have := HEK.out
            rw [h1] at this
            rw [if_neg (by omega)] at this
            exact this
          subst hE1
          go_wp2
          go_ret
          exact ⟨rfl, HK7.out⟩
        have hlL : (L : Int) = max limit 0 := by have := HLL.out; omega
        have hLI := HI.out.2.2
        by_cases h4 : (L : Int) - (k : Int) ≤ seq
        · have hE1 : E = 10 := by
            have h1 : perr1 L epoch seq k T p = 10 := by unfold perr1; rw [if_neg (by rw [HG.out]; simp), if_neg (by omega), if_neg (by omega), if_pos (.inr h4)]
            have := HEK.out
            rw [h1] at this
            rw [if_neg (by omega)] at this
            exact this
          subst hE1
          go_wp2
          all_goals first
            | (exfalso; omega)
            | (go_ret; exact ⟨rfl, HK7.out⟩)
        · have hll : limit = (L : Int) := by omega
          subst hll
          have h5 : seq < (L : Int) - (k : Int) := by omega
          have h6 : (0 : Int) < (L : Int) := by omega
          have h7 : 0 ≤ epoch := by omega
          have h8 : 0 ≤ seq := by omega
          have h9 : epoch < 4294967296 := by omega
          have hE2 : E = perrs L epoch seq (k + 1) (T + 63 + p.body.length) (rs.drop (k + 1)) := by
            have h1 : perr1 L epoch seq k T p = 0 := by unfold perr1; rw [if_neg (by rw [HG.out]; simp), if_neg (by omega), if_neg (by omega), if_neg (by omega)]
            have := HEK.out
            rw [if_pos h1] at this
            exact this
          have HE2 := Lib.hid hE2
          clear hE2 h1 h2 h3 h4 hlL
          go_wp2
          all_goals try (exfalso; omega)
          refine ⟨⟨.int .i64 0, .int .i64 ((T : Int) + (63 + (p.body.length : Int))), .int .i64 k, .pointer (some ⟨wr.heap.size, 0, none⟩), .int .i64 ((k : Int) + 1), ⟨k + 1, by omega, by go_num, rfl, by rw [HSN.out]; go_num, by rw [HSN.out]; exact HE2.out, HK7.out⟩, rfl, rfl, rfl, rfl, rfl⟩, ?_⟩
          simp [intOf]; omega
    · obtain rfl : k = n := by omega
      have hE0 : E = 0 := by rw [hEk, List.drop_of_length_le (by rw [HLN.out]; exact Nat.le_refl _)]; rfl
      subst hE0
      go_wp2
      go_ret
      exact ⟨rfl, kr⟩
end Go.Proofs.YtiimfhacnfdmhaaGreat.Seg
namespace Go.Proofs.YtiimfhacnfdmhaaGreat.Seg
open Go Go.RowKit Kit
open Rec (Rec good ftot recB recB_length good_bounds)
open Ideal (Ts Thing sealT derT hashT leafT rootT)
open Vault (nonce pur)
def qn : ByteArray := ⟨#[113, 117, 101, 117, 101]⟩
def keyT (ms : List UInt8) (q : Int) : Thing := derT ms (pur qn [q])
def besT (at' : List UInt8) (i n : Nat) : List UInt8 := at' ++ num8 i ++ num8 n
def stT (ms : List UInt8) (e s : Int) (at' : List UInt8) (n : Nat) (o : Ts) (i : Nat) (r : Rec) : Thing := sealT (o.val (keyT ms r.queue) 32) (nonce e (s + i)) (besT at' i n) (recB r)
def st1 (ms : List UInt8) (e s : Int) (at' : List UInt8) (n : Nat) (q : Ts × List (Int × List UInt8)) (r : Rec) : Ts × List (Int × List UInt8) :=
  ((q.1.nx (keyT ms r.queue)).nx (stT ms e s at' n q.1 q.2.length r), q.2 ++ [(r.queue, (q.1.nx (keyT ms r.queue)).val (stT ms e s at' n q.1 q.2.length r) ((recB r).length + 16))])
def stA (ms : List UInt8) (e s : Int) (at' : List UInt8) (n : Nat) (o : Ts) (rs : List Rec) : Ts × List (Int × List UInt8) := rs.foldl (st1 ms e s at' n) (o, [])
theorem stA_nil (ms : List UInt8) (e s : Int) (at' : List UInt8) (n : Nat) (o : Ts) : stA ms e s at' n o [] = (o, []) := rfl
theorem stA_snoc (ms : List UInt8) (e s : Int) (at' : List UInt8) (n : Nat) (o : Ts) (rs : List Rec) (k : Nat) (h : k < rs.length) : stA ms e s at' n o (rs.take (k + 1)) = st1 ms e s at' n (stA ms e s at' n o (rs.take k)) rs[k] := by
  unfold stA
  rw [List.take_add_one, List.getElem?_eq_getElem h, List.foldl_append]
  rfl
theorem fold_len (ms : List UInt8) (e s : Int) (at' : List UInt8) (n : Nat) : ∀ (rs : List Rec) (q : Ts × List (Int × List UInt8)), (rs.foldl (st1 ms e s at' n) q).2.length = q.2.length + rs.length
  | [], q => rfl
  | r :: rs, q => by rw [List.foldl_cons, fold_len ms e s at' n rs, List.length_cons]; simp only [st1, List.length_append, List.length_cons, List.length_nil]; omega
theorem stA_length (ms : List UInt8) (e s : Int) (at' : List UInt8) (n : Nat) (o : Ts) (rs : List Rec) : (stA ms e s at' n o rs).2.length = rs.length := by
  unfold stA; rw [fold_len]; simp
theorem fold_sub (ms : List UInt8) (e s : Int) (at' : List UInt8) (n : Nat) : ∀ (rs : List Rec) (q : Ts × List (Int × List UInt8)), q.1.sub (rs.foldl (st1 ms e s at' n) q).1
  | [], q => .refl _
  | r :: rs, q => ((q.1.sub_nx _).trans (Ts.sub_nx _ _)).trans (fold_sub ms e s at' n rs (st1 ms e s at' n q r))
theorem stA_from (ms : List UInt8) (e s : Int) (at' : List UInt8) (n : Nat) (o : Ts) (rs : List Rec) : o.sub (stA ms e s at' n o rs).1 := fold_sub ms e s at' n rs (o, [])
theorem fold_few (ms : List UInt8) (e s : Int) (at' : List UInt8) (n : Nat) : ∀ (rs : List Rec) (q : Ts × List (Int × List UInt8)) (k : Nat), q.1.few k → (rs.foldl (st1 ms e s at' n) q).1.few (k + 2 * rs.length)
  | [], q, k, h => h
  | r :: rs, q, k, h => (fold_few ms e s at' n rs (st1 ms e s at' n q r) (k + 2) ((h.nx _).nx _)).mono (by rw [List.length_cons]; omega)
theorem stA_few (ms : List UInt8) (e s : Int) (at' : List UInt8) (n : Nat) (o : Ts) (rs : List Rec) (k : Nat) (h : o.few k) : (stA ms e s at' n o rs).1.few (k + 2 * rs.length) := fold_few ms e s at' n rs (o, []) k h
def lf1 (q : Ts × List (List UInt8)) (b : List UInt8) : Ts × List (List UInt8) := (q.1.nx (leafT b), q.2 ++ [q.1.val (leafT b) 32])
def lfA (o : Ts) (bs : List (List UInt8)) : Ts × List (List UInt8) := bs.foldl lf1 (o, [])
theorem lfA_nil (o : Ts) : lfA o [] = (o, []) := rfl
theorem lfA_snoc (o : Ts) (bs : List (List UInt8)) (k : Nat) (h : k < bs.length) : lfA o (bs.take (k + 1)) = lf1 (lfA o (bs.take k)) bs[k] := by
  unfold lfA
  rw [List.take_add_one, List.getElem?_eq_getElem h, List.foldl_append]
  rfl
theorem lfold_len : ∀ (bs : List (List UInt8)) (q : Ts × List (List UInt8)), (bs.foldl lf1 q).2.length = q.2.length + bs.length
  | [], q => rfl
  | b :: bs, q => by rw [List.foldl_cons, lfold_len bs, List.length_cons]; simp only [lf1, List.length_append, List.length_cons, List.length_nil]; omega
theorem lfA_length (o : Ts) (bs : List (List UInt8)) : (lfA o bs).2.length = bs.length := by unfold lfA; rw [lfold_len]; simp
theorem lfold_sub : ∀ (bs : List (List UInt8)) (q : Ts × List (List UInt8)), q.1.sub (bs.foldl lf1 q).1
  | [], q => .refl _
  | b :: bs, q => (q.1.sub_nx _).trans (lfold_sub bs (lf1 q b))
theorem lfA_from (o : Ts) (bs : List (List UInt8)) : o.sub (lfA o bs).1 := lfold_sub bs (o, [])
theorem lfold_few : ∀ (bs : List (List UInt8)) (q : Ts × List (List UInt8)) (k : Nat), q.1.few k → (bs.foldl lf1 q).1.few (k + bs.length)
  | [], q, k, h => h
  | b :: bs, q, k, h => (lfold_few bs (lf1 q b) (k + 1) (h.nx _)).mono (by rw [List.length_cons]; omega)
theorem lfA_few (o : Ts) (bs : List (List UInt8)) (k : Nat) (h : o.few k) : (lfA o bs).1.few (k + bs.length) := lfold_few bs (o, []) k h
theorem lfold_32 : ∀ (bs : List (List UInt8)) (q : Ts × List (List UInt8)), q.1.long → (∀ d ∈ q.2, d.length = 32) → ∀ d ∈ (bs.foldl lf1 q).2, d.length = 32
  | [], q, h, hd => hd
  | b :: bs, q, h, hd => lfold_32 bs (lf1 q b) (h.nx _) (fun d hm => by
    rcases List.mem_append.1 hm with hm | hm
    · exact hd d hm
    · rw [List.mem_singleton.1 hm]; exact h.len _ (.inl rfl))
theorem lfA_32 (o : Ts) (bs : List (List UInt8)) (h : o.long) : ∀ d ∈ (lfA o bs).2, d.length = 32 := lfold_32 bs (o, []) h (fun d hm => by cases hm)
def rtA (o : Ts) (bs : List (List UInt8)) : List UInt8 × Ts := rootT (lfA o bs).1 (lfA o bs).2
theorem rtA_eq (o : Ts) (bs : List (List UInt8)) : rtA o bs = rootT (lfA o bs).1 (lfA o bs).2 := rfl
theorem rtA_sub (o : Ts) (bs : List (List UInt8)) : o.sub (rtA o bs).2 := (lfA_from o bs).trans (Ideal.rootT_sub _ _)
theorem rtA_few (o : Ts) (bs : List (List UInt8)) (k : Nat) (h : o.few k) : (rtA o bs).2.few (k + 2 * bs.length + 1) := by
  have := Ideal.rootT_few _ (lfA o bs).2 _ (lfA_few o bs k h)
  rw [lfA_length] at this
  exact this.mono (by omega)
theorem rtA_length (o : Ts) (bs : List (List UInt8)) (h : o.long) : (rtA o bs).1.length = 32 := Ideal.rootT_length _ _ (h.sub (lfA_from o bs)) (lfA_32 o bs h)
attribute [irreducible] rtA
def parB (ps : List (Int × List UInt8)) : List UInt8 := ps.flatMap fun p => num8 p.1 ++ textB (str p.2)
theorem parB_snoc (ps : List (Int × List UInt8)) (k : Nat) (h : k < ps.length) : parB (ps.take (k + 1)) = parB (ps.take k) ++ num8 ps[k].1 ++ textB (str ps[k].2) := by
  unfold parB
  rw [List.take_add_one, List.getElem?_eq_getElem h, List.flatMap_append]
  simp [List.append_assoc]
theorem parB_append (a b : List (Int × List UInt8)) : parB (a ++ b) = parB a ++ parB b := by simp [parB]
def frB (T : Nat) (ps : List (Int × List UInt8)) (root : List UInt8) : List UInt8 := num8 T ++ num8 ps.length ++ parB ps ++ root
def hdA (o : Ts) (at' : List UInt8) (T : Nat) (ps : List (Int × List UInt8)) : Packed :=
  ⟨(rtA o (ps.map (·.2))).2.nx (hashT (at' ++ frB T ps (rtA o (ps.map (·.2))).1)), frB T ps (rtA o (ps.map (·.2))).1, (rtA o (ps.map (·.2))).2.val (hashT (at' ++ frB T ps (rtA o (ps.map (·.2))).1)) 32, 0⟩
theorem hdA_o (o : Ts) (at' : List UInt8) (T : Nat) (ps : List (Int × List UInt8)) : (hdA o at' T ps).o = (rtA o (ps.map (·.2))).2.nx (hashT (at' ++ frB T ps (rtA o (ps.map (·.2))).1)) := rfl
theorem hdA_b (o : Ts) (at' : List UInt8) (T : Nat) (ps : List (Int × List UInt8)) : (hdA o at' T ps).b = frB T ps (rtA o (ps.map (·.2))).1 := rfl
theorem hdA_h (o : Ts) (at' : List UInt8) (T : Nat) (ps : List (Int × List UInt8)) : (hdA o at' T ps).h = (rtA o (ps.map (·.2))).2.val (hashT (at' ++ frB T ps (rtA o (ps.map (·.2))).1)) 32 := rfl
theorem hdA_e (o : Ts) (at' : List UInt8) (T : Nat) (ps : List (Int × List UInt8)) : (hdA o at' T ps).e = 0 := rfl
attribute [irreducible] hdA
def bad (lim : Nat) (e s : Int) : Nat → Nat → List Rec → Nat
  | _, _, [] => 0
  | i, size, r :: rs => if perr1 lim e s i size r = 0 then bad lim e s (i + 1) (size + 63 + r.body.length) rs + 1 else 0
theorem bad_cons (lim : Nat) (e s : Int) (i size : Nat) (r : Rec) (rs : List Rec) : bad lim e s i size (r :: rs) = if perr1 lim e s i size r = 0 then bad lim e s (i + 1) (size + 63 + r.body.length) rs + 1 else 0 := rfl
def end1 (ms : List UInt8) (o : Ts) (size : Nat) (r : Rec) : Ts := if good r = true ∧ size + 63 + r.body.length ≤ 16384 then o.nx (keyT ms r.queue) else o
def lft (ms : List UInt8) (e s : Int) (at' : List UInt8) (o : Ts) (rs : List Rec) (k : Nat) : Ts :=
  if h : k < rs.length then end1 ms (stA ms e s at' rs.length o (rs.take k)).1 (ftot (rs.take k)) rs[k] else o
theorem lft_at (ms : List UInt8) (e s : Int) (at' : List UInt8) (o : Ts) (rs : List Rec) (k : Nat) (h : k < rs.length) : lft ms e s at' o rs k = end1 ms (stA ms e s at' rs.length o (rs.take k)).1 (ftot (rs.take k)) rs[k] := dif_pos h
def pk (o : Ts) (ms : List UInt8) (lim : Nat) (e s : Int) (at' : List UInt8) (rs : List Rec) : Packed :=
  if rs = [] then ⟨o, [], at', 1⟩
  else if perrs lim e s 0 48 rs = 0 then hdA (stA ms e s at' rs.length o rs).1 at' (ftot rs) (stA ms e s at' rs.length o rs).2
  else ⟨lft ms e s at' o rs (bad lim e s 0 48 rs), [], Ideal.z32, perrs lim e s 0 48 rs⟩
theorem pk_nil (o : Ts) (ms : List UInt8) (lim : Nat) (e s : Int) (at' : List UInt8) : pk o ms lim e s at' [] = ⟨o, [], at', 1⟩ := if_pos rfl
theorem pk_yes (o : Ts) (ms : List UInt8) (lim : Nat) (e s : Int) (at' : List UInt8) (rs : List Rec) (hn : rs ≠ []) (h : perrs lim e s 0 48 rs = 0) : pk o ms lim e s at' rs = hdA (stA ms e s at' rs.length o rs).1 at' (ftot rs) (stA ms e s at' rs.length o rs).2 := by
  rw [pk, if_neg hn, if_pos h]
theorem pk_no (o : Ts) (ms : List UInt8) (lim : Nat) (e s : Int) (at' : List UInt8) (rs : List Rec) (hn : rs ≠ []) (h : perrs lim e s 0 48 rs ≠ 0) : pk o ms lim e s at' rs = ⟨lft ms e s at' o rs (bad lim e s 0 48 rs), [], Ideal.z32, perrs lim e s 0 48 rs⟩ := by
  rw [pk, if_neg hn, if_neg h]
attribute [irreducible] pk stA lfA parB
end Go.Proofs.YtiimfhacnfdmhaaGreat.Seg
