/- Lemmas: SegA Scr ScrR SegSizes SegErrors ResR. -/
import Derived.Test.YtiimfhacnfdmhaaGreatZG25
import Derived.Deep.Fields
import Derived.Deep.Strs
import Derived.ChangeArms
import Derived.WideShapes
import Derived.Laws.ResultCell
set_option linter.unusedVariables false
set_option linter.unusedSimpArgs false
namespace Go.Proofs.YtiimfhacnfdmhaaGreat.Seg
open Go Go.RowKit Kit
open Rec (Rec good ftot fsec split Rrow Sr SrOk rcells rec_under rec_size exec_recOne)
open Ideal (Ts Thing Arg Args zc zc_run zc_length zc_eq z32)
open Vault
def r0 : Rec := ⟨7, 0, 0, 1, 0, []⟩
theorem r0_good : good r0 = true := by first | rfl | (unfold good; rfl) | (unfold good; simp [r0, Rec.inB])
theorem perr_r0 : perr 1099511627776 0 0 [r0] = 0 := by
  rw [perr, if_neg (by simp), perrs_cons]
  have : perr1 1099511627776 0 0 0 48 r0 = 0 := by
    unfold perr1
    rw [if_neg (by rw [r0_good]; simp), if_neg (by simp [r0]), if_neg (by omega), if_neg (by omega)]
  rw [if_pos this]
  rfl
theorem ftot_r0 : ftot [r0] = 111 := rfl
theorem fsec_r0 : fsec [r0] = 1 := rfl
theorem z32_len : z32.length = 32 := by simp [z32]
theorem z_build2 (w : World) : (Instr.build 32 #[]).run Tryz.prog w = .ok (.agg (bvs z32).toArray) w := by rw [← zc_eq]; exact z_build w
structure Ax where
  c : Vc
  x : Vt
  X : Option Addr
  cX : Nat
def aT [Inhabited Sha.ShaTab] [Inhabited Field.SqTab] (w0 : World) (g : Nat) (b : List UInt8) (p : Nat) (q : Ax) (w : World) : Prop :=
  Kp nob w0 w ∧ Blk w g 34 (rcells r0) ∧ (∀ i, q.x.P i ∨ ab q.X = some i → i < w.heap.size ∧ w0.heap.size < i) ∧ (p = 0 → ∀ i, ¬ (q.x.P i ∨ ab q.X = some i)) ∧ (p = 1 → q.X = none) ∧
    (p = 1 → Vx w q.c q.x ∧ q.x.o = .dream [] ∧ q.x.cl = 0 ∧ q.c.ms = z32 ∧ q.c.lim = 1099511627776) ∧ (p = 2 → Row w q.X (bvs b) ∧ (q.X = none → q.cX = 0) ∧ b.length ≤ q.cX ∧ q.cX ≤ maxLen)
def aV (b h : List UInt8) (e : Int) (r : Nat) (q : Ax) : Value := if r = 0 then .pointer (some ⟨q.c.v, 0, none⟩) else .tuple #[.slice q.X b.length q.cX, .agg (bvs h).toArray, .int .i64 e]
theorem wp_store_whole {P : Program} {a : Act} {o : Oper} {w : World} {K' : Act → World → Prop} {Q : Exit → Act → World → Prop} (ty : TypeId) (x y : Operand) (ho : o.op = .store ty x y) (g : Nat) (t : TypeId) (cs vs : List Value) (hB : Blk w g t cs) (hx : a.eval x = .pointer (some ⟨g, 0, none⟩)) (hy : a.eval y = .agg vs.toArray)
    (hl : vs.length = cs.length) (hz : (P.info? ty).map (·.size) = some vs.length) (h1 : ∀ u ∈ vs, u.oneCell' = true) (h : ∀ w', Blk w' g t vs → Kp (fun i => i = g) w w' → K' (a.put o.dst undef) w') : Oper.wp P o a w K' Q := by
  have ht : w.there g 0 vs.toArray.size := by have := hB.there; rw [← hl] at this; simpa using this
  have hz' : (P.info? ty).map (·.size) = some vs.toArray.size := by simpa using hz
  exact wp_store_mid ty x y ho g 0 vs.toArray hx hy ht hz' (all_oneCell_toArray h1) (by simpa using h _ (hB.setAll hl) (Kp.setCells (F := fun i => i = g) (.inl rfl) _ (Kp.refl _ w)))
theorem exec_move {P : Program} {a : Act} {o : Oper} {w : World} {v : Value} (x : Operand) (ho : o.op = .move x) (hx : a.eval x = v) : (execOp a.eval o).run P w = .ok (.value v) w := by
  unfold execOp; simp only [ho, hx]; rfl
theorem exec_assign {P : Program} {a : Act} {o : Oper} {w : World} {v : Value} (x : Operand) (ho : o.op = .assign x) (hx : a.eval x = v) : (execOp a.eval o).run P w = .ok (.value v) w := by
  unfold execOp; simp only [ho, hx]; rfl
theorem exec_extract3 {P : Program} {a : Act} {o : Oper} {w : World} {u v z : Value} (x : Operand) (i : Nat) (r : Value) (ho : o.op = .extract x i) (hx : a.eval x = .tuple #[u, v, z]) (hi : #[u, v, z][i]? = some r) : (execOp a.eval o).run P w = .ok (.value r) w := by
  unfold execOp; simp only [ho, hx]; go_simp <;> simp_all
def aE (b h : List UInt8) (e : Int) (r : Nat) (q : Ax) : Value := if r = 6 then .tuple #[.slice q.X b.length q.cX, .agg (bvs h).toArray, .int .i64 e] else if r = 7 ∨ r = 11 then .slice q.X b.length q.cX else if r = 8 then .agg (bvs h).toArray else .int .i64 e
def aO (q : Ax) : Nat → Prop := fun i => q.x.P i ∨ ab q.X = some i
set_option maxHeartbeats 4000000 in
set_option maxRecDepth 100000 in
theorem alive_yes [Inhabited Sha.ShaTab] [Inhabited Field.SqTab] (pk : PackF) (hP : PackC pk) (hS : PackS pk) (hSec : SectorsC) (hLen : LengthC) (w : World) :
    Calls Tryz.prog 9 #[] w fun e w' => e = .returned (.bool true) ∧ Kp nob w w' := by
  obtain ⟨R, hR⟩ : ∃ R, R = pk (.dream []) z32 1099511627776 0 0 z32 [r0] := ⟨_, rfl⟩
  have he : R.e = 0 := by rw [hR, hS.err]; exact perr_r0
  obtain ⟨rest, hb, hbl⟩ := hS.begins (.dream []) z32 1099511627776 0 0 z32 [r0] trivial (by rw [← hR]; exact he)
  rw [← hR, ftot_r0] at hb
  rw [ftot_r0] at hbl
  have hl : R.b.length = 111 := by rw [hb]; simp; omega
  have hlf : lenF R.b = 111 := by
    have := lenF_of 111 rest [] hbl (by omega) (by omega)
    rw [List.append_nil] at this
    rw [hb]; exact this
  have h32 : R.h.length = 32 := by rw [hR]; exact hS.h32 _ _ _ _ _ _ _ trivial z32_len
  have HR := Lib.hid (And.intro hR (And.intro he (And.intro hl (And.intro hlf h32))))
  clear he hb hbl hl hlf rest hR h32
  have HB := Lib.hid (show Blk (w.alloc (.cells #[.int .i64 7, .int .i64 0, .int .i64 0, .int .i64 1, .int .i64 0, .string ⟨#[]⟩] 34)).drew w.heap.size 34 (rcells r0) from (show Blk (w.alloc (.cells #[.int .i64 7, .int .i64 0, .int .i64 0, .int .i64 1, .int .i64 0, .string ⟨#[]⟩] 34)) w.heap.size 34 (rcells r0) from Blk.new' (by simp) rfl).keep (Kp.refl nob _).drew (fun e => e))
  have HK := Lib.hid (show Kp nob w (w.alloc (.cells #[.int .i64 7, .int .i64 0, .int .i64 0, .int .i64 1, .int .i64 0, .string ⟨#[]⟩] 34)).drew from ((Kp.refl nob w).alloc _).drew)
  go_enter Tryz.func9, Tryz.ntmps9
  go_wp2
  obtain ⟨wb, hwb⟩ : ∃ wb, wb = w.alloc (.cells #[.int .i64 7, .int .i64 0, .int .i64 0, .int .i64 1, .int .i64 0, .string ⟨#[]⟩] 34) := ⟨_, rfl⟩
  have hws : wb.drew.heap.size = w.heap.size + 1 := by rw [hwb]; rw [show ∀ w : World, w.drew.heap.size = w.heap.size from fun _ => rfl]; simp
  rw [← hwb] at HB HK ⊢
  clear hwb
  refine reg_begin (fun w2 => Blk w2 w.heap.size 34 (rcells r0)) (by kernel_rfl) HB.out (fun _ => ?_)
  refine reg_take (v := .agg (bvs z32).toArray) 0 (some 7) rfl rfl (by kernel_rfl) (by kernel_rfl) (by kernel_rfl) (by rfl) HB.out (fun w _ => exec_build _ _ rfl [] _ rfl (z_build2 _)) ?_
  simp only [Act.put, List.setIfInBounds_toArray, List.set_cons_zero, List.set_cons_succ]
  refine reg_take (v := .agg (bvs z32).toArray) 2 (some 9) rfl rfl (by kernel_rfl) (by kernel_rfl) (by kernel_rfl) (by rfl) HB.out (fun w _ => exec_build _ _ rfl [] _ rfl (z_build2 _)) ?_
  simp only [Act.put, List.setIfInBounds_toArray, List.set_cons_zero, List.set_cons_succ]
  refine reg_load 3 (some 10) 34 (.tmp 1) rfl rfl rfl (by kernel_rfl) (by kernel_rfl) (by kernel_rfl) (by rfl) HB.out w.heap.size 0 rfl (rcells r0) _ (fun w hw => hw.range) rec_under rfl (rec_size r0) ?_
  simp only [Act.put, List.setIfInBounds_toArray, List.set_cons_zero, List.set_cons_succ]
  refine reg_vaultS (X := Ax) [1, 5] [4, 10] [6, 7, 8, 9, 11, 13] 5 12 10 [(4, some 11), (10, some 3), (1, some 8), (5, some 12), (6, some 6), (7, some 13), (8, some 14), (9, some 15), (11, some 2), (13, some 4), (12, none)] _ _ _ _ 0 14 (aT w w.heap.size R.b) aO (aV R.b R.h R.e) (aE R.b R.h R.e) (w.heap.size + 1)
    (fun d => if d = 4 then 34 else 32) (fun d => if d = 4 then rcells r0 else zc) (fun d g => if d = 4 then .slice (some ⟨g, 0, none⟩) 1 1 else .pointer (some ⟨g, 0, none⟩)) (fun _ => bvs R.h)
    rfl rfl rfl (by kernel_rfl) (by kernel_rfl) (by kernel_rfl) (by kernel_rfl) (by kernel_rfl) (by kernel_rfl) (by simp) ⟨by decide, by decide⟩ (by kernel_rfl) rfl (by kernel_rfl)
    (fun p x w' h => h.2.1) (fun p x w' h => h.2.1.lt) (fun p x w' h i e => (h.2.2.1 i e).1) (fun p x w' o h => ?hT) ⟨⟨0, 0, 0, [], 0, 0⟩, ⟨fun _ => False, fun _ => False, .dream [], [], 0⟩, none, 0⟩ ⟨HK.out, HB.out, fun i e => e.elim (fun e => e.elim) (fun e => by cases e), fun _ i e => e.elim (fun e => e.elim) (fun e => by cases e), fun e => by omega, fun e => by omega, fun e => by omega⟩ ?hcall ?hnew ?hqt ?hTg ?hst ?hK
  case hT => exact ⟨h.1.alloc _, h.2.1.alloc _, fun i e => ⟨by have := (h.2.2.1 i e).1; simp; omega, (h.2.2.1 i e).2⟩, h.2.2.2.1, h.2.2.2.2.1, fun e => let ⟨a1, a2⟩ := h.2.2.2.2.2.1 e; ⟨a1.alloc _, a2⟩, fun e => let ⟨a1, a2⟩ := h.2.2.2.2.2.2 e; ⟨a1.alloc _, a2⟩⟩
  case hnew =>
    intro d hd o a w1 ho e0
    simp only [List.mem_cons, List.not_mem_nil, or_false] at hd
    rcases hd with rfl | rfl
    · obtain rfl := oper_is ho rfl
      have hx : a.eval (.tmp 10) = .agg (rcells r0).toArray := e0 10 (by kernel_rfl)
      exact exec_recOne (.tmp 10) r0 rfl hx
    · obtain rfl := oper_is ho rfl
      have hz := zc_run w1
      unfold execOp
      go_simp
  case hqt =>
    intro d hd o a w1 x ho ec ee hT
    simp only [List.mem_cons, List.not_mem_nil, or_false] at hd
    rcases hd with rfl | rfl | rfl | rfl | rfl | rfl
    · obtain rfl := oper_is ho rfl
      have hx : a.eval (.tmp 12) = .tuple #[.slice x.X R.b.length x.cX, .agg (bvs R.h).toArray, .int .i64 R.e] := ec 1 (by decide) 12 rfl
      exact exec_move (.tmp 12) rfl hx
    · obtain rfl := oper_is ho rfl
      have hx : a.eval (.tmp 6) = .tuple #[.slice x.X R.b.length x.cX, .agg (bvs R.h).toArray, .int .i64 R.e] := ee 6 (by simp) (by kernel_rfl) 6 rfl
      exact exec_extract3 (.tmp 6) 0 _ rfl hx rfl
    · obtain rfl := oper_is ho rfl
      have hx : a.eval (.tmp 6) = .tuple #[.slice x.X R.b.length x.cX, .agg (bvs R.h).toArray, .int .i64 R.e] := ee 6 (by simp) (by kernel_rfl) 6 rfl
      exact exec_extract3 (.tmp 6) 1 _ rfl hx rfl
    · obtain rfl := oper_is ho rfl
      have hx : a.eval (.tmp 6) = .tuple #[.slice x.X R.b.length x.cX, .agg (bvs R.h).toArray, .int .i64 R.e] := ee 6 (by simp) (by kernel_rfl) 6 rfl
      exact exec_extract3 (.tmp 6) 2 _ rfl hx rfl
    · obtain rfl := oper_is ho rfl
      have hx : a.eval (.tmp 13) = .slice x.X R.b.length x.cX := ee 7 (by simp) (by kernel_rfl) 13 rfl
      exact exec_assign (.tmp 13) rfl hx
    · obtain rfl := oper_is ho rfl
      have hx : a.eval (.tmp 15) = .int .i64 R.e := ee 9 (by simp) (by kernel_rfl) 15 rfl
      exact exec_assign (.tmp 15) rfl hx
  case hTg =>
    intro x w1 w2 g hT hg hno k
    refine ⟨hT.1.trans k (fun i e => .inr (by omega)), hT.2.1.keep k (fun e => by omega), fun i e => ⟨Nat.lt_of_lt_of_le (hT.2.2.1 i e).1 k.size, (hT.2.2.1 i e).2⟩, hT.2.2.2.1, hT.2.2.2.2.1, fun e => by simp at e, fun e => ?_⟩
    obtain ⟨a1, a2⟩ := hT.2.2.2.2.2.2 rfl
    exact ⟨a1.keep k (fun i e1 e2 => hno (.inr (e2 ▸ e1))), a2⟩
  case hst =>
    intro o a w1 x g ho ee ed hb hT K' hK'
    obtain rfl := oper_is ho rfl
    have hx : a.eval (.tmp 3) = .pointer (some ⟨g, 0, none⟩) := ed 3 rfl
    have hy : a.eval (.tmp 14) = .agg (bvs R.h).toArray := ee 8 (by simp) (by kernel_rfl) 14 rfl
    exact wp_store_whole 32 (.tmp 3) (.tmp 14) rfl g 32 zc (bvs R.h) hb hx hy (by rw [bvs_length, HR.out.2.2.2.2, zc_length]) (rarr_size R.h HR.out.2.2.2.2) (bvs_one _) hK'
  case hcall =>
    intro p hp o a w1 x ho e0 ev ed hT K' hK'
    match p, hp with
    | 0, _ =>
      obtain rfl := oper_is ho rfl
      have hx : a.eval (.tmp 7) = .agg (bvs z32).toArray := e0 7 (by kernel_rfl)
      unfold Oper.wp
      rw [exec_func 27 _ _ [.bool false, .agg (bvs z32).toArray] rfl (by kernel_rfl) (by show [_, a.eval (.tmp 7)] = _; rw [hx]; rfl), Oper.upon_enter]
      refine (kept_dream z32 w1 z32_len).mono ?_
      rintro e w2 ⟨c, y, rfl, hn⟩
      have hs1 : w.heap.size < w1.heap.size := hT.2.1.lt
      refine hK' _ ⟨c, y, none, 0⟩ w2 rfl (fun r hr => by omega) ⟨hT.1.trans hn.k (fun _ e => e.elim), hT.2.1.keep hn.k (fun e => e), fun i e => ?_, fun e => by omega, fun _ => rfl, fun _ => ⟨hn.vx, hn.o_, hn.cl, hn.ms, hn.lm⟩, fun e => by omega⟩ (fun i e => ?_) (hn.k.nob _)
      · rcases e with e | e
        · have h1 := hn.vx.ge i e; have h2 := hn.b; have h3 := hn.vx.lt i e
          exact ⟨h3, by omega⟩
        · cases e
      · rcases e with e | e
        · have h1 := hn.vx.ge i e; have h2 := hn.b
          exact .inr (by omega)
        · cases e
    | 1, _ =>
      obtain rfl := oper_is ho rfl
      obtain ⟨hv1, hv2, hv3, hv4, hv5⟩ := hT.2.2.2.2.2.1 rfl
      have hX0 := hT.2.2.2.2.1 rfl
      have hx : a.eval (.tmp 8) = .pointer (some ⟨x.c.v, 0, none⟩) := ev 0 (by omega) 8 rfl
      have hy : a.eval (.tmp 9) = .agg (bvs z32).toArray := e0 9 (by kernel_rfl)
      obtain ⟨g, hg1, hg2, hg3, hg4⟩ : ∃ g, a.eval (.tmp 11) = .slice (some ⟨g, 0, none⟩) 1 1 ∧ Blk w1 g 34 (rcells r0) ∧ w.heap.size + 1 ≤ g ∧ ¬ aO x g := ed 4 (by simp) (by kernel_rfl) 11 rfl
      unfold Oper.wp
      rw [exec_func 23 _ _ [.pointer (some ⟨x.c.v, 0, none⟩), .int .i64 0, .int .i64 0, .agg (bvs z32).toArray, .slice (some ⟨g, 0, none⟩) 1 1] rfl (by kernel_rfl) (by show [a.eval (.tmp 8), _, _, a.eval (.tmp 9), a.eval (.tmp 11)] = _; rw [hx, hy, hg1]; rfl), Oper.upon_enter]
      have hrow : Rrow w1 (some ⟨g, 0, none⟩) [r0] := .inr ⟨g, 0, rfl, hg2.lt, fun i v hv => by rw [Nat.zero_add, hg2.cell]; simpa using hv⟩
      have hcall := hP x.c x.x 0 0 z32 (some ⟨g, 0, none⟩) 1 1 [r0] w1 hv1 z32_len rfl hrow (.inr (fun i e => by cases e; exact fun e => hg4 (.inl e))) (by omega) (fun r hr => by rcases List.mem_singleton.1 hr with rfl; simp [r0]) (by rw [hv2]; simp [Ts.few]) (by rw [hv2]; trivial) (by omega) (by omega) (by omega) (by omega)
      rw [hv2, hv4, hv5, ← HR.out.1] at hcall
      refine hcall.mono ?_
      rintro r w2 ⟨F2, P2, sl2, cl2, X, cX, rfl, hq, hcl, hA⟩
      have hs1 : w.heap.size < w1.heap.size := hT.2.1.lt
      have hkp : Kp (aO x) w1 w2 := hq.kp.mono (fun i _ e => .inl e)
      have hP2 : ∀ i, P2 i → i < w2.heap.size ∧ w.heap.size < i := fun i e => ⟨hq.now.lt i e, (hq.P i e).elim (fun e => (hT.2.2.1 i (.inl e)).2) (fun e => by omega)⟩
      have hXl : ∀ i, ab X = some i → i < w2.heap.size ∧ w.heap.size < i := fun i e => ⟨hA.row.lt (fun e2 => by have h1 := congrArg List.length e2; rw [bvs_length, HR.out.2.2.1] at h1; simp at h1) i e, by have := (hA.far i e).1; omega⟩
      refine hK' _ ⟨x.c, ⟨F2, P2, R.o, sl2, cl2⟩, X, cX⟩ w2 rfl (fun r hr => match r, hr with | 0, _ => rfl) ⟨hT.1.trans hq.kp (fun i e => .inr (by have := (hT.2.2.1 i (.inl e)).2; omega)), hT.2.1.keep hq.kp (fun e => absurd (hT.2.2.1 w.heap.size (.inl e)).2 (Nat.lt_irrefl _)), fun i e => e.elim (hP2 i) (hXl i), fun e => by omega, fun e => by omega, fun e => by omega, fun _ => ⟨hA.row, hA.nil, hA.cap, hA.mx⟩⟩ (fun i e => ?_) hkp
      rcases e with e | e
      · exact (hq.P i e).imp .inl id
      · exact .inr (hA.far i e).1
  case hK =>
    intro vals x w1 hv hd he hs hT
    obtain ⟨g, hg1, hg2, hg3, hg4⟩ := hd
    have v10 : vals 10 = .pointer (some ⟨g, 0, none⟩) := hg1
    have v6 : vals 6 = .tuple #[.slice x.X R.b.length x.cX, .agg (bvs R.h).toArray, .int .i64 R.e] := he 6 (by simp)
    have v7 : vals 7 = .slice x.X R.b.length x.cX := he 7 (by simp)
    have v8 : vals 8 = .agg (bvs R.h).toArray := he 8 (by simp)
    have v9 : vals 9 = .int .i64 R.e := he 9 (by simp)
    have v11 : vals 11 = .slice x.X R.b.length x.cX := he 11 (by simp)
    have v13 : vals 13 = .int .i64 R.e := he 13 (by simp)
    have hR0 := HR.out.2.1
    have hRl := HR.out.2.2.1
    obtain ⟨u4, h4⟩ : ∃ u, u = vals 4 := ⟨_, rfl⟩
    obtain ⟨u1, h1⟩ : ∃ u, u = vals 1 := ⟨_, rfl⟩
    obtain ⟨u5, h5⟩ : ∃ u, u = vals 5 := ⟨_, rfl⟩
    simp only [putZ, v6, v7, v8, v9, v10, v11, v13, ← h4, ← h1, ← h5]
    simp only [Act.put, List.setIfInBounds_toArray, List.set_cons_zero, List.set_cons_succ, hR0, hRl]
    refine reg_end (by kernel_rfl) ?_
    have HT := Lib.hid hT
    have HX := Lib.hid (hT.2.2.2.2.2.2 rfl)
    clear hT he hs hv v10 v6 v7 v8 v9 v11 v13 hg1 hg2 hg3 hg4
    have b0 : w1.cell? ⟨w.heap.size, 0, none⟩ = some (.int .i64 7) := HT.out.2.1.cell 0
    have b1 : w1.cell? ⟨w.heap.size, 1, none⟩ = some (.int .i64 0) := HT.out.2.1.cell 1
    have b2 : w1.cell? ⟨w.heap.size, 2, none⟩ = some (.int .i64 0) := HT.out.2.1.cell 2
    have b3 : w1.cell? ⟨w.heap.size, 3, none⟩ = some (.int .i64 1) := HT.out.2.1.cell 3
    have b4 : w1.cell? ⟨w.heap.size, 4, none⟩ = some (.int .i64 0) := HT.out.2.1.cell 4
    have b5 : w1.cell? ⟨w.heap.size, 5, none⟩ = some (.string ⟨#[]⟩) := HT.out.2.1.cell 5
    have HSE := Lib.hid (hSec (some ⟨w1.heap.size, 0, none⟩) 1 1 [r0] (w1.alloc (.cells #[.int .i64 7, .int .i64 0, .int .i64 0, .int .i64 1, .int .i64 0, .string ⟨#[]⟩] 34)) rfl (by
      have := row_new w1 (rcells r0) 34
      exact this) (by rw [ftot_r0]; omega) (by omega))
    rw [fsec_r0] at HSE
    have kA := (Kp.refl nob w1).alloc (.cells #[.int .i64 7, .int .i64 0, .int .i64 0, .int .i64 1, .int .i64 0, .string ⟨#[]⟩] 34)
    have HLE : Hid (∀ w2, Kp nob w1 w2 → Calls Tryz.prog 30 #[.slice x.X 111 x.cX] w2 fun e w' => e = .returned (.int .i64 111) ∧ Kp nob w2 w') := Lib.hid (fun w2 k => by
      have := hLen x.X 111 x.cX R.b w2 hRl (HX.out.1.keep0 k) (by omega) HX.out.2.1 (by have := HX.out.2.2.1; rw [hRl] at this; exact this) HX.out.2.2.2
      rw [HR.out.2.2.2.1] at this
      exact this)
    have HKA := Lib.hid kA
    clear kA
    go_wp2_with (first
      | (go_at_call 13; refine HSE.out.mono ?_; rintro e w2 ⟨rfl, k2⟩; have HK2 := Lib.hid (HKA.out.trans k2 (fun _ e => e.elim)); clear k2)
      | (go_at_call 30; refine (HLE.out _ HK2.out).mono ?_; rintro e w3 ⟨rfl, k3⟩)
      | fail)
    go_ret
    exact ⟨rfl, (HT.out.1.trans HK2.out (fun _ e => e.elim)).trans k3 (fun _ e => e.elim)⟩
end Go.Proofs.YtiimfhacnfdmhaaGreat.Seg
namespace Go.Proofs.YtiimfhacnfdmhaaGreat.Kit
open Go Go.RowKit
theorem weights_agg {H : Type} {P : Program} {t : TypeId} {fs : Array Field} {parts : List (DataW H)} (hu : P.underlying t = some (.struct fs)) : (DataW.agg parts).weights P t = DataW.weightsEach P (fs.toList.map (·.type)) parts := by
  unfold DataW.weights; rw [hu]
section
variable {H : Type} {enc : TypeId × Value → H} {P : Program} {W : World} {base : Nat} {held : Bool} {fuel : Nat}
theorem row_of_cells {A : Addr} {len k : Nat} {V : Nat → Nat → Value} (hk : 0 < k) (h : ∀ i, i < len → ∀ j, j < k → W.cell? (A.add (i * k + j)) = some (V i j)) : Row W (some A) ((List.range len).flatMap fun i => (List.range k).map (V i)) := by
  by_cases h0 : len = 0
  · subst h0; exact Row.nil _ _
  · have hc := h 0 (by omega) 0 hk
    obtain ⟨b, o, sp⟩ := A
    have hsp : sp = none := by
      rw [Nat.zero_mul, Nat.zero_add] at hc
      simpa [Addr.add] using World.cell?_spot hc
    subst hsp
    rw [Addr.add_mid] at hc
    refine .inr ⟨b, o, rfl, World.block_lt_of_cell? W _ hc, fun i u hu => ?_⟩
    have hlen : ∀ n : Nat, ((List.range n).flatMap fun i => (List.range k).map (V i)).length = n * k := fun n => by
      induction n with
      | zero => simp
      | succ n ih => rw [List.range_succ, List.flatMap_append, List.length_append, ih]; simp [Nat.succ_mul]
    have hat : ∀ n i : Nat, i < n * k → ((List.range n).flatMap fun i => (List.range k).map (V i))[i]? = some (V (i / k) (i % k)) := fun n => by
      induction n with
      | zero => intro i hi; omega
      | succ n ih =>
        intro i hi
        rw [List.range_succ, List.flatMap_append]
        by_cases hlt : i < n * k
        · rw [List.getElem?_append_left (by rw [hlen]; exact hlt), ih i hlt]
        · rw [Nat.succ_mul] at hi
          rw [List.getElem?_append_right (by rw [hlen]; omega), hlen]
          have e1 : i / k = n := by
            have h1 : n ≤ i / k := (Nat.le_div_iff_mul_le hk).2 (by omega)
            have h2 : i / k < n + 1 := (Nat.div_lt_iff_lt_mul hk).2 (by rw [Nat.succ_mul]; exact hi)
            omega
          have e2 : i % k = i - n * k := by
            have := Nat.div_add_mod i k
            rw [e1, Nat.mul_comm] at this; omega
          simp only [List.flatMap_cons, List.flatMap_nil, List.append_nil]
          rw [List.getElem?_map, List.getElem?_range (by omega), e1, e2]; rfl
    have hi : i < len * k := by
      have := (List.getElem?_eq_some_iff.1 hu).1
      rwa [hlen] at this
    rw [hat len i hi] at hu
    cases hu
    have hd : i / k < len := Nat.div_lt_of_lt_mul (by rw [Nat.mul_comm]; exact hi)
    have := h (i / k) hd (i % k) (Nat.mod_lt _ hk)
    rw [show i / k * k + i % k = i by rw [Nat.mul_comm]; exact Nat.div_add_mod i k, Addr.add_mid] at this
    exact this
theorem open_recs {t e : TypeId} {fs : Array Field} {A : Option Addr} {len cap : Nat} {x : DataW H × List MemPlace} (ht : P.underlying t = some (.slice e)) (he : P.underlying e = some (.struct fs))
    (hone : ∀ (i : Nat) (f : Field), fs[i]? = some f → f.offset = i ∧ P.cellsOf f.type = 1) (hC : P.cellsOf e = fs.size) (hpos : 0 < fs.size) (h : DataW.trod enc P W base (fun _ => true) held fuel t [.slice A len cap] = some x) :
    ∃ V : Nat → Nat → Value, Row W A ((List.range len).flatMap fun i => (List.range fs.size).map (V i)) ∧ len ≤ cap ∧ cap ≤ maxLen ∧ (A = none → cap = 0) ∧
      ∀ i, i < len → ∀ j f, fs[j]? = some f → ∃ m y, DataW.trod enc P W base (fun _ => true) held m f.type [V i j] = some y ∧ ∀ n ∈ y.1.weights P f.type, n ∈ x.1.weights P t := by
  rcases Deep.open_slice ht h with ⟨hcs, _⟩ | ⟨a, l, c, m, n, D, Pl, hcs, hb, hl, hc, hm, hx, hi⟩
  · simp only [List.cons.injEq, Value.slice.injEq, and_true] at hcs
    obtain ⟨rfl, rfl, rfl⟩ := hcs
    exact ⟨fun _ _ => undef, Row.nil _ _, Nat.le_refl _, by simp [maxLen], fun _ => rfl, fun i hi => by omega⟩
  · simp only [List.cons.injEq, Value.slice.injEq, and_true] at hcs
    obtain ⟨rfl, rfl, rfl⟩ := hcs
    simp only [if_true] at hm
    subst hm
    have each : ∀ i, i < len → ∃ v : Nat → Value, (∀ j, j < fs.size → W.cell? (a.add (i * fs.size + j)) = some (v j)) ∧ ∀ j f, fs[j]? = some f → ∃ m y, DataW.trod enc P W base (fun _ => true) held m f.type [v j] = some y ∧ ∀ n ∈ y.1.weights P f.type, n ∈ x.1.weights P t := by
      intro i hlt
      obtain ⟨cs', hcells, htr⟩ := hi i (by omega)
      obtain ⟨_, hlen, hcell⟩ := World.cells?_some hcells
      rw [hC] at hlen hcell
      obtain ⟨xs, n', _, hxd, _, hxl, hf⟩ := DataW.trod_struct he htr
      have hxD : D i = .agg (xs.map (·.1)) := congrArg (·.1) hxd
      have hmem : D i ∈ (List.range len).map D := List.mem_map.2 ⟨i, List.mem_range.2 hlt, rfl⟩
      refine ⟨fun j => cs'.getD j undef, fun j hj => ?_, fun j f hjf => ?_⟩
      · have := hcell j hj
        rw [Deep.add_add] at this
        rw [this]; show cs'[j]? = some (cs'.getD j undef); rw [List.getD_eq_getElem?_getD, List.getElem?_eq_getElem (by omega)]; rfl
      · have hlt' : j < fs.size := (Array.getElem?_eq_some_iff.1 hjf).1
        obtain ⟨ho, hc1⟩ := hone j f hjf
        have g := hf j f hjf
        rw [ho, hc1, Deep.take1_drop cs' j undef (by omega), List.getElem?_eq_getElem (by omega)] at g
        refine ⟨n', _, g, fun n hn => ?_⟩
        rw [hx]
        refine weights_slice ht hmem n ?_
        rw [hxD, weights_agg he]
        exact DataW.weights_mem_each (j := j) (by rw [List.getElem?_map, Array.getElem?_toList, hjf]; rfl) (by rw [List.getElem?_map, List.getElem?_eq_getElem (by omega)]; rfl) n hn
    have : Inhabited (Nat → Value) := ⟨fun _ => undef⟩
    obtain ⟨V, hV⟩ := Deep.choose_lt each
    exact ⟨V, row_of_cells hpos (fun i hlt j hj => (hV i hlt).1 j hj), hl, hc, (fun e => by cases e), fun i hlt j f hjf => (hV i hlt).2 j f hjf⟩
theorem cell_int {m : Nat} {t : TypeId} {k : IntKind} {v : Value} {y : DataW H × List MemPlace} (ht : P.underlying t = some (.int k)) (h : DataW.trod enc P W base (fun _ => true) held m t [v] = some y) : ∃ n, v = .int k n ∧ (Lit.int k n).wf = true := by
  obtain ⟨n, h1, _, h2⟩ := DataW.trod_int ht h
  exact ⟨n, by simpa using h1, h2⟩
theorem cell_string {m : Nat} {t : TypeId} {v : Value} {y : DataW H × List MemPlace} (ht : P.underlying t = some .string) (h : DataW.trod enc P W base (fun _ => true) held m t [v] = some y) {B : Nat} (hB : ∀ n ∈ y.1.weights P t, n ≤ B) : ∃ s : ByteArray, v = .string s ∧ s.size ≤ B := by
  obtain ⟨s, h1, h3, h2⟩ := DataW.trod_string ht h
  exact ⟨s, by simpa using h1, hB _ (by rw [h3]; simp [DataW.weights])⟩
end
structure CallI where
  kind : Int
  key : List UInt8
  nonce : List UInt8
  aad : List UInt8
  text : List UInt8
  n : Int
def CallI.cells (c : CallI) : List Value := [.int .i64 c.kind, .string (str c.key), .string (str c.nonce), .string (str c.aad), .string (str c.text), .int .i64 c.n]
theorem CallI.length (c : CallI) : c.cells.length = 6 := rfl
def CallI.ok (c : CallI) : Prop := (Lit.int .i64 c.kind).wf = true ∧ (Lit.int .i64 c.n).wf = true ∧ c.key.length ≤ 140737488355328 ∧ c.nonce.length ≤ 140737488355328 ∧ c.aad.length ≤ 140737488355328 ∧ c.text.length ≤ 140737488355328
instance : Inhabited CallI := ⟨⟨0, [], [], [], [], 0⟩⟩
end Go.Proofs.YtiimfhacnfdmhaaGreat.Kit
namespace Go.Proofs.YtiimfhacnfdmhaaGreat.Rec
open Go Go.RowKit Kit
def Rec.ok (r : Rec) : Prop := (Lit.int .i64 r.kind).wf = true ∧ (Lit.int .i64 r.queue).wf = true ∧ (Lit.int .i64 r.id).wf = true ∧ (Lit.int .i64 r.num).wf = true ∧ (Lit.int .i64 r.wait).wf = true ∧ r.body.length ≤ 140737488355328
instance : Inhabited Rec := ⟨⟨0, 0, 0, 0, 0, []⟩⟩
theorem open_records {H : Type} {enc : TypeId × Value → H} {P : Program} {W : World} {base : Nat} {held : Bool} {fuel : Nat} {t e : TypeId} {fs : Array Field} {A : Option Addr} {len cap : Nat} {x : DataW H × List MemPlace} (ht : P.underlying t = some (.slice e)) (he : P.underlying e = some (.struct fs))
    (hone : ∀ (i : Nat) (f : Field), fs[i]? = some f → f.offset = i ∧ P.cellsOf f.type = 1) (hC : P.cellsOf e = fs.size) (f0 f1 f2 f3 f4 f5 : Field) (hf : fs = #[f0, f1, f2, f3, f4, f5])
    (h0 : P.underlying f0.type = some (.int .i64)) (h1 : P.underlying f1.type = some (.int .i64)) (h2 : P.underlying f2.type = some (.int .i64)) (h3 : P.underlying f3.type = some (.int .i64)) (h4 : P.underlying f4.type = some (.int .i64)) (h5 : P.underlying f5.type = some .string)
    (h : DataW.trod enc P W base (fun _ => true) held fuel t [.slice A len cap] = some x) (hB : ∀ n ∈ x.1.weights P t, n ≤ 140737488355328) :
    ∃ cs : List Rec, cs.length = len ∧ Row W A (cs.flatMap rcells) ∧ len ≤ cap ∧ cap ≤ maxLen ∧ (A = none → cap = 0) ∧ ∀ c ∈ cs, c.ok := by
  have hsz : fs.size = 6 := by rw [hf]; rfl
  obtain ⟨V, hr, hl, hc, hn, hV⟩ := open_recs ht he hone hC (by omega) h
  have each : ∀ i, i < len → ∃ c : Rec, (List.range 6).map (V i) = rcells c ∧ c.ok := by
    intro i hi
    have g := hV i hi
    rw [hf] at g
    obtain ⟨_, _, g0, b0⟩ := g 0 f0 rfl; obtain ⟨_, _, g1, b1⟩ := g 1 f1 rfl; obtain ⟨_, _, g2, b2⟩ := g 2 f2 rfl
    obtain ⟨_, _, g3, b3⟩ := g 3 f3 rfl; obtain ⟨_, _, g4, b4⟩ := g 4 f4 rfl; obtain ⟨_, _, g5, b5⟩ := g 5 f5 rfl
    obtain ⟨k, e0, w0⟩ := cell_int h0 g0; obtain ⟨q, e1, w1⟩ := cell_int h1 g1; obtain ⟨d, e2, w2⟩ := cell_int h2 g2
    obtain ⟨n, e3, w3⟩ := cell_int h3 g3; obtain ⟨u, e4, w4⟩ := cell_int h4 g4; obtain ⟨s5, e5, w5⟩ := cell_string h5 g5 (fun n hn => hB _ (b5 n hn))
    refine ⟨⟨k, q, d, n, u, sl s5⟩, ?_, w0, w1, w2, w3, w4, by show (sl s5).length ≤ _; rw [sl_length]; exact w5⟩
    show [V i 0, V i 1, V i 2, V i 3, V i 4, V i 5] = _
    rw [e0, e1, e2, e3, e4, e5]; rfl
  obtain ⟨C, hC2⟩ := Deep.choose_lt each
  refine ⟨(List.range len).map C, by simp, ?_, hl, hc, hn, fun c hcm => ?_⟩
  · rw [hsz] at hr
    have e : ((List.range len).flatMap fun i => (List.range 6).map (V i)) = ((List.range len).map C).flatMap rcells := by
      rw [List.flatMap_map]
      exact Deep.flatMap_congr_range fun i hi => (hC2 i hi).1
    rwa [e] at hr
  · obtain ⟨i, hi, rfl⟩ := List.mem_map.1 hcm
    exact (hC2 i (List.mem_range.1 hi)).2
end Go.Proofs.YtiimfhacnfdmhaaGreat.Rec
namespace Go.Proofs.YtiimfhacnfdmhaaGreat.Seg
open Go Go.RowKit Kit
open Rec (Rec good ftot fsec split Rrow Sr SrOk rcells rec_under rec_size great_any greatR fSame rec_info recs_und rcs_len)
open Ideal (Ts Thing Arg Args)
open Vault
theorem great_no {rs : List Rec} {n : Nat} {most : Nat} (hl : rs.length = n) (hg : greatR rs most = false) : n ≤ most ∧ ∀ r ∈ rs, r.body.length ≤ 4096 := by
  unfold greatR at hg
  simp only [Bool.or_eq_false_iff, decide_eq_false_iff_not, List.any_eq_false, decide_eq_true_eq] at hg
  exact ⟨by have := hg.2; omega, fun r hr => by have := hg.1 r hr; omega⟩
theorem ftot_le (rs : List Rec) (h : ∀ r ∈ rs, r.body.length ≤ 4096) : ftot rs ≤ 48 + rs.length * 4159 := by
  induction rs with
  | nil => simp [ftot]
  | cons r rs ih =>
    have h1 := h r (by simp)
    have h2 := ih (fun q hq => h q (by simp [hq]))
    have hf : ftot (r :: rs) = 63 + r.body.length + ftot rs := by simp [ftot]; omega
    rw [hf, List.length_cons]; omega
end Go.Proofs.YtiimfhacnfdmhaaGreat.Seg
namespace Go.Proofs.YtiimfhacnfdmhaaGreat.Seg
open Go Go.RowKit Kit
open Rec (Rec good ftot fsec split Rrow Sr SrOk rcells rec_under rec_size great_any greatR ftot_snoc ftot_take)
open Ideal (Ts Thing Arg Args zc zc_run zc_length zc_eq z32)
open Vault
theorem rrow_far {w : World} {A : Option Addr} {rs : List Rec} (h : Rrow w A rs) : rs = [] ∨ ∀ i, ab A = some i → i < w.heap.size := by
  by_cases e : rs = []
  · exact .inl e
  · refine .inr (Row.lt h (fun e2 => ?_))
    have h1 := congrArg List.length e2
    rw [Rec.rcs_len] at h1
    have := List.length_pos_iff.2 e
    simp only [List.length_nil] at h1; omega
end Go.Proofs.YtiimfhacnfdmhaaGreat.Seg
namespace Go.Proofs.YtiimfhacnfdmhaaGreat.Kit
open Go Go.RowKit
theorem results_rec {P : Program} {fn : Func} {p u : Tmp} {ty : TypeId} (h : fn.results = #[.cell p ty, .tmp u]) (tmps : Array Value) (w : World) (g : Nat) (t : TypeId) (cs : List Value) (d : TypeDesc)
    (hp : tmps.getD p undef = .pointer (some ⟨g, 0, none⟩)) (hg : Blk w g t cs) (hu : P.underlying ty = some d) (hd : d.isRow = true) (hi : (P.info? ty).map (·.size) = some cs.length) (v : Value) (hv : tmps.getD u undef = v) :
    (results fn tmps).run P w = .ok (.tuple #[.agg cs.toArray, v]) w := by
  rw [results_cell_tmp h, hp, hv]
  simp [asAddr, run_loadVar_mid w g 0 ty cs d hg.range hu hd hi, Result.andThen]
theorem Kp.new3 (w : World) (a b c d : Obj) : Kp Kit.nob w ((((w.alloc a).alloc b).alloc c).alloc d) := ((((Kp.refl _ _).alloc _).alloc _).alloc _).alloc _
theorem Blk.new3 (w : World) (t : TypeId) (cs : List Value) (a b c : Obj) : Blk ((((w.alloc (.cells cs.toArray t)).alloc a).alloc b).alloc c) w.heap.size t cs := (((Blk.new w t cs).alloc a).alloc b).alloc c
end Go.Proofs.YtiimfhacnfdmhaaGreat.Kit
