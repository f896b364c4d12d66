/- Lemmas: RegP3 ComL ComO. -/
import Derived.Test.YtigdlnfgdjfdoaaGreatZK27
import Derived.Test.YtigdlnfgdjfdoaaGreatZK30
set_option maxHeartbeats 4000000
set_option maxRecDepth 100000
set_option linter.unusedVariables false
set_option linter.unusedSimpArgs false
namespace Go.Proofs.YtigdlnfgdjfdoaaGreat
namespace Kit
open Go Go.RowKit
open Ideal (zc zc_run zc_length zc_eq)
theorem exec_mv {P : Program} {a : Act} {o : Oper} {w : World} {v : Value} (x : Operand) (ho : o.op = .move x) (hx : a.eval x = v) : (execOp a.eval o).run P w = .ok (.value v) w := by
 unfold execOp; simp only [ho, hx]; rfl
theorem exec_as {P : Program} {a : Act} {o : Oper} {w : World} {v : Value} (x : Operand) (ho : o.op = .assign x) (hx : a.eval x = v) : (execOp a.eval o).run P w = .ok (.value v) w := by
 unfold execOp; simp only [ho, hx]; rfl
theorem exec_ex3 {P : Program} {a : Act} {o : Oper} {w : World} {u v z : Value} (x : Operand) (i : Nat) (r : Value) (ho : o.op = .extract x i) (hx : a.eval x = .tuple #[u, v, z]) (hi : #[u, v, z][i]? = some r) : (execOp a.eval o).run P w = .ok (.value r) w := by
 unfold execOp; simp only [ho, hx]; go_simp <;> simp_all
theorem wp_store_all {P : Program} {a : Act} {o : Oper} {w : World} {K' : Act → World → Prop} {Q : Exit → Act → World → Prop} (ty : TypeId) (x y : Operand) (ho : o.op = .store ty x y) (g : Nat) (t : TypeId) (cs vs : List Value) (hB : Blk w g t cs) (hx : a.eval x = .pointer (some ⟨g, 0, none⟩)) (hy : a.eval y = .agg vs.toArray)
    (hl : vs.length = cs.length) (hz : (P.info? ty).map (·.size) = some vs.length) (h1 : ∀ u ∈ vs, u.oneCell' = true) (h : ∀ w', Blk w' g t vs → Kp (fun i => i = g) w w' → K' (a.put o.dst undef) w') : Oper.wp P o a w K' Q := by
 have ht : w.there g 0 vs.toArray.size := by have := hB.there; rw [← hl] at this; simpa using this
 have hz' : (P.info? ty).map (·.size) = some vs.toArray.size := by simpa using hz
 exact wp_store_mid ty x y ho g 0 vs.toArray hx hy ht hz' (all_oneCell_toArray h1) (by simpa using h _ (hB.setAll hl) (Kp.setCells (F := fun i => i = g) (.inl rfl) _ (Kp.refl _ w)))
theorem arr_size (r : List UInt8) (h : r.length = 32) : (Tryz.prog.info? 47).map (·.size) = some (bvs r).length := by rw [bvs_length, h]; kernel_rfl
def p3T {Y : Type} (J : World → Prop) (R : Y → World → Prop) (p : Nat) (q : Option Y) (w : World) : Prop := (p = 0 → q = none ∧ J w) ∧ (p ≠ 0 → ∃ y, q = some y ∧ R y w)
def p3V {Y : Type} (U : Y → Value) (hh : Y → List UInt8) (er : Y → Int) (r : Nat) (q : Option Y) : Value := match q with
 | none => undef
 | some y => .tuple #[U y, .agg (bvs (hh y)).toArray, .int .i64 (er y)]
def p3O {Y : Type} (own0 : Nat → Prop) (own : Y → Nat → Prop) (q : Option Y) : Nat → Prop := match q with
 | none => own0
 | some y => own y
section
variable {md : Region.Mode} {ops : Array Oper} {Q : Exit → Act → World → Prop} {S : World → Prop}
theorem reg_pack3 {Y : Type} (l d0 s i0 i1 i2 i3 i4 i5 : Nat) (tc tm ta th te tg : Tmp) (oc od os o0 o1 o2 o3 o4 o5 : Oper) (Z : List (Nat × Option Tmp)) (L0 LM : Array Bool) (a0 : Act) (w0 : World) (f n : Nat) (J : World → Prop) (R : Y → World → Prop) (own0 : Nat → Prop) (own : Y → Nat → Prop) (U : Y → Value) (hh : Y → List UInt8) (er : Y → Int) (N : Nat) (g : FuncId) (args : Array Value)
    (hn : ops.size = n) (hL0 : L0.size = n) (hZ : ([d0] ++ ([l] ++ ([i0, i1, i2, i3, i4, i5] ++ [s]))).map (fun i => (i, (ops[i]?).bind (·.dst))) = Z)
    (hap : apartB (fun i => (ops[i]?).bind (·.dst)) ([d0] ++ ([l] ++ ([i0, i1, i2, i3, i4, i5] ++ [s]))) = true) (hcl : closedB md ops (lst L0) = true) (hah : aheadB md ops (lst L0) ([d0] ++ ([l] ++ ([i0, i1, i2, i3, i4, i5] ++ [s]))) = true) (hbe : behindB md ops l [i0, i1, i2, i3, i4, i5] = true) (hse : (((ops[s]?).map fun o => (o.after.any fun e => (e.on == l || [i0, i1, i2, i3, i4, i5].contains e.on) && Region.binds md e) && (o.after.any fun e => e.on == d0 && Region.binds md e)).getD false) = true)
    (hsz : (([d0] ++ ([l] ++ ([i0, i1, i2, i3, i4, i5] ++ [s]))).all fun i => match (ops[i]?).bind (·.dst) with | some d => decide (d < a0.tmps.size) | none => true) = true) (hLM : ([d0] ++ ([l] ++ ([i0, i1, i2, i3, i4, i5] ++ [s]))).foldl (fun l i => l.setIfInBounds i true) L0 = LM)
    (hw : (([d0] ++ ([l] ++ ([i0, i1, i2, i3, i4, i5] ++ [s]))).all fun i => ((ops[i]?).map fun o => o.guard.isNone).getD false) = true)
    (hd : ([i0, i1, i2, i3, i4, i5].map fun i => (decide (i = i0), decide (i = i1), decide (i = i2), decide (i = i3), decide (i = i4))) = [(true, false, false, false, false), (false, true, false, false, false), (false, false, true, false, false), (false, false, false, true, false), (false, false, false, false, true), (false, false, false, false, false)])
    (ec : ops[l]? = some oc ∧ oc.dst = some tc) (ed : ops[d0]? = some od ∧ od.dst = some tg ∧ od.op = .alloc 47) (es : ops[s]? = some os ∧ os.op = .store 47 (.tmp tg) (.tmp th))
    (e0 : ops[i0]? = some o0 ∧ o0.dst = some tm ∧ o0.op = .move (.tmp tc)) (e1 : ops[i1]? = some o1 ∧ o1.dst = some ta ∧ o1.op = .extract (.tmp tm) 0 ∧ (o1.after.any fun e => e.on == i0 && Region.binds md e) = true) (e2 : ops[i2]? = some o2 ∧ o2.dst = some th ∧ o2.op = .extract (.tmp tm) 1 ∧ (o2.after.any fun e => e.on == i0 && Region.binds md e) = true)
    (e3 : ops[i3]? = some o3 ∧ o3.dst = some te ∧ o3.op = .extract (.tmp tm) 2 ∧ (o3.after.any fun e => e.on == i0 && Region.binds md e) = true) (e4 : ops[i4]? = some o4 ∧ o4.op = .assign (.tmp ta) ∧ (o4.after.any fun e => e.on == i1 && Region.binds md e) = true) (e5 : ops[i5]? = some o5 ∧ o5.op = .assign (.tmp te) ∧ (o5.after.any fun e => e.on == i3 && Region.binds md e) = true)
    (e6 : (os.after.any fun e => e.on == i2 && Region.binds md e) = true)
    (hS : ∀ w, J w → S w) (hS1 : ∀ y w, R y w → S w) (hN : ∀ w, J w → N ≤ w.heap.size) (hN1 : ∀ y w, R y w → N ≤ w.heap.size) (hJa : ∀ w o, J w → J (w.alloc o)) (hRa : ∀ y w o, R y w → R y (w.alloc o))
    (hlt0 : ∀ i, own0 i → i < N) (hlt : ∀ y w, R y w → ∀ i, own y i → i < w.heap.size) (hRk : ∀ y w w' g, R y w → N ≤ g → ¬ own y g → Kp (fun i => i = g) w w' → R y w') (h0 : J w0)
    (hca : ∀ (a : Act) (w : World), (∀ t, (([d0] ++ ([l] ++ ([i0, i1, i2, i3, i4, i5] ++ [s]))).all fun j => (ops[j]?).bind (·.dst) != some t) = true → a.eval (.tmp t) = a0.eval (.tmp t)) → (execOp a.eval oc).run Tryz.prog w = .ok (.enter g args) w)
    (hcall : ∀ w, J w → Calls Tryz.prog g args w fun e w' => ∃ y, e = .returned (.tuple #[U y, .agg (bvs (hh y)).toArray, .int .i64 (er y)]) ∧ (hh y).length = 32 ∧ R y w' ∧ (∀ i, own y i → own0 i ∨ w.heap.size ≤ i) ∧ Kp own0 w w')
    (hK : ∀ (vals : Nat → Value) (y : Y) (q : Nat) (w : World), vals l = .tuple #[U y, .agg (bvs (hh y)).toArray, .int .i64 (er y)] → vals d0 = .pointer (some ⟨q, 0, none⟩) → vals i0 = .tuple #[U y, .agg (bvs (hh y)).toArray, .int .i64 (er y)] → vals i1 = U y → vals i2 = .agg (bvs (hh y)).toArray → vals i3 = .int .i64 (er y) → vals i4 = U y → vals i5 = .int .i64 (er y) → vals s = undef →
      Blk w q 47 (bvs (hh y)) → N ≤ q → ¬ own y q → R y w → wpAnyH Tryz.prog md ops Q S f LM (putZ vals Z a0) w) :
    wpAnyH Tryz.prog md ops Q S (f + ([d0] ++ ([l] ++ ([i0, i1, i2, i3, i4, i5] ++ [s]))).length) L0 a0 w0 := by
 have hd1 := hd
 simp only [List.map_cons, List.map_nil, List.cons.injEq, Prod.mk.injEq, decide_eq_true_eq, decide_eq_false_iff_not, and_true, true_and] at hd1
 obtain ⟨⟨n01, n02, n03, n04⟩, ⟨_, n12, n13, n14⟩, ⟨_, _, n23, n24⟩, ⟨_, _, _, n34⟩, ⟨_, _, _, _⟩, ⟨m0, m1, m2, m3, m4⟩⟩ := hd1
 have hh32 : ∀ (q : Option Y) w, p3T J (fun y w => R y w ∧ (hh y).length = 32) 1 q w → ∃ y, q = some y ∧ R y w ∧ (hh y).length = 32 := fun q w h => h.2 (by decide)
 refine reg_vaultS (X := Option Y) [l] [d0] [i0, i1, i2, i3, i4, i5] l s d0 Z L0 LM a0 w0 f n (p3T J (fun y w => R y w ∧ (hh y).length = 32)) (p3O own0 own) (p3V U hh er)
  (fun r q => match q with | none => undef | some y => if r = i0 then .tuple #[U y, .agg (bvs (hh y)).toArray, .int .i64 (er y)] else if r = i1 then U y else if r = i2 then .agg (bvs (hh y)).toArray else if r = i3 then .int .i64 (er y) else if r = i4 then U y else .int .i64 (er y)) N
  (fun _ => 47) (fun _ => zc) (fun _ g => .pointer (some ⟨g, 0, none⟩)) (fun q => match q with | none => [] | some y => bvs (hh y))
  hn hL0 hZ hap hcl hah (by simp [chainB]) hbe hse (by simp) ⟨by simp, by simp⟩ hsz hLM hw
  (fun p q w h => ?cS) (fun p q w h => ?cN) (fun p q w h i hi => ?cL) (fun p q w o h => ?cA) none ⟨fun _ => ⟨rfl, h0⟩, fun e => absurd rfl e⟩ ?hcall ?hnew ?hqt ?hTg ?hst ?hK
 case cS =>
  by_cases hp : p = 0
  · exact hS w (h.1 hp).2
  · obtain ⟨y, _, h1, _⟩ := h.2 hp; exact hS1 y w h1
 case cN =>
  by_cases hp : p = 0
  · exact hN w (h.1 hp).2
  · obtain ⟨y, _, h1, _⟩ := h.2 hp; exact hN1 y w h1
 case cL =>
  by_cases hp : p = 0
  · obtain ⟨h1, h2⟩ := h.1 hp
    subst h1
    have := hlt0 i hi; have := hN w h2; omega
  · obtain ⟨y, h0, h1, _⟩ := h.2 hp
    subst h0
    exact hlt y w h1 i hi
 case cA => exact ⟨fun e => ⟨(h.1 e).1, hJa w o (h.1 e).2⟩, fun e => by obtain ⟨y, a1, a2, a3⟩ := h.2 e; exact ⟨y, a1, hRa y w o a2, a3⟩⟩
 case hnew =>
  intro d hd2 o a w1 ho he
  obtain rfl : d = d0 := by simpa using hd2
  obtain rfl := oper_is ho ed.1
  have hz := zc_run w1
  have h1 := ed.2.2
  unfold execOp
  rw [h1]
  go_simp
 case hqt =>
  intro d hd2 o a w1 q ho hv hE hT
  obtain ⟨y, rfl, hR, _⟩ := hh32 q w1 hT
  have v0 : a.eval (.tmp tc) = .tuple #[U y, .agg (bvs (hh y)).toArray, .int .i64 (er y)] := hv 0 (by simp) tc (by simp only [List.getElem_cons_zero]; rw [ec.1]; exact ec.2)
  simp only [List.mem_cons, List.not_mem_nil, or_false] at hd2
  have vm : (o.after.any fun e => e.on == i0 && Region.binds md e) = true → a.eval (.tmp tm) = .tuple #[U y, .agg (bvs (hh y)).toArray, .int .i64 (er y)] := fun h => by
   have := hE i0 (by simp) h tm (by rw [e0.1]; exact e0.2.1)
   rw [this]; simp
  rcases hd2 with rfl | rfl | rfl | rfl | rfl | rfl
  · obtain rfl := oper_is ho e0.1
    simp only [if_true]
    exact exec_mv (.tmp tc) e0.2.2 v0
  · obtain rfl := oper_is ho e1.1
    simp only [n12, n13, n14, if_false, if_true, Ne.symm n01, if_neg (Ne.symm n01)]
    exact exec_ex3 (.tmp tm) 0 _ e1.2.2.1 (vm e1.2.2.2) (by simp)
  · obtain rfl := oper_is ho e2.1
    simp only [if_neg (Ne.symm n02), if_neg (Ne.symm n12), if_true]
    exact exec_ex3 (.tmp tm) 1 _ e2.2.2.1 (vm e2.2.2.2) (by simp)
  · obtain rfl := oper_is ho e3.1
    simp only [if_neg (Ne.symm n03), if_neg (Ne.symm n13), if_neg (Ne.symm n23), if_true]
    exact exec_ex3 (.tmp tm) 2 _ e3.2.2.1 (vm e3.2.2.2) (by simp)
  · obtain rfl := oper_is ho e4.1
    have h1 := hE i1 (by simp) e4.2.2 ta (by rw [e1.1]; exact e1.2.1)
    simp only [if_neg (Ne.symm n01), if_true] at h1
    simp only [if_neg (Ne.symm n04), if_neg (Ne.symm n14), if_neg (Ne.symm n24), if_neg (Ne.symm n34), if_true]
    exact exec_as (.tmp ta) e4.2.1 h1
  · obtain rfl := oper_is ho e5.1
    have h1 := hE i3 (by simp) e5.2.2 te (by rw [e3.1]; exact e3.2.1)
    simp only [if_neg (Ne.symm n03), if_neg (Ne.symm n13), if_neg (Ne.symm n23), if_true] at h1
    simp only [if_neg m0, if_neg m1, if_neg m2, if_neg m3, if_neg m4]
    exact exec_as (.tmp te) e5.2.1 h1
 case hTg =>
  intro q w1 w2 g2 hT hg hno k
  obtain ⟨y, rfl, hR, h3⟩ := hh32 q w1 hT
  exact ⟨fun e => absurd e (by simp), fun _ => ⟨y, rfl, hRk y w1 w2 g2 hR hg hno k, h3⟩⟩
 case hst =>
  intro o a w1 q g2 ho hE hd2 hb hT K' hK'
  obtain ⟨y, rfl, hR, h3⟩ := hh32 q w1 hT
  obtain rfl := oper_is ho es.1
  have hx : a.eval (.tmp tg) = .pointer (some ⟨g2, 0, none⟩) := hd2 tg (by rw [ed.1]; exact ed.2.1)
  have h1 := hE i2 (by simp) e6 th (by rw [e2.1]; exact e2.2.1)
  simp only [if_neg (Ne.symm n02), if_neg (Ne.symm n12), if_true] at h1
  exact wp_store_all 47 (.tmp tg) (.tmp th) es.2 g2 47 zc (bvs (hh y)) hb hx h1 (by rw [bvs_length, h3, zc_length]) (arr_size (hh y) h3) (bvs_one _) hK'
 case hcall =>
  intro p hp o a w1 q ho he hv hed hT K' hK'
  obtain rfl : p = 0 := by simpa using hp
  obtain ⟨rfl, hJ⟩ := hT.1 rfl
  obtain rfl := oper_is (by simpa using ho) ec.1
  unfold Oper.wp
  rw [hca a w1 he, Oper.upon_enter]
  refine (hcall w1 hJ).mono ?_
  rintro e w2 ⟨y, rfl, h3, hR, hO, hk⟩
  exact hK' _ (some y) w2 rfl (fun r hr => by omega) ⟨fun e => absurd e (by omega), fun _ => ⟨y, rfl, hR, h3⟩⟩ hO hk
 case hK =>
  intro vals q w1 hv hd2 hE hs hT
  obtain ⟨y, rfl, hR, h3⟩ := hh32 q w1 hT
  obtain ⟨g2, hg1, hg2, hg3, hg4⟩ := hd2
  have v0 := hE i0 (by simp)
  have v1 := hE i1 (by simp)
  have v2 := hE i2 (by simp)
  have v3 := hE i3 (by simp)
  have v4 := hE i4 (by simp)
  have v5 := hE i5 (by simp)
  simp only [if_true] at v0
  simp only [if_neg (Ne.symm n01), if_true] at v1
  simp only [if_neg (Ne.symm n02), if_neg (Ne.symm n12), if_true] at v2
  simp only [if_neg (Ne.symm n03), if_neg (Ne.symm n13), if_neg (Ne.symm n23), if_true] at v3
  simp only [if_neg (Ne.symm n04), if_neg (Ne.symm n14), if_neg (Ne.symm n24), if_neg (Ne.symm n34), if_true] at v4
  simp only [if_neg m0, if_neg m1, if_neg m2, if_neg m3, if_neg m4] at v5
  exact hK vals y g2 w1 (hv 0 (by simp)) hg1 v0 v1 v2 v3 v4 v5 hs hg2 hg3 hg4 hR
end
end Kit
namespace Com
open Go Go.RowKit Kit
open Rec (Rec good ftot fsec split Rrow Sr SrOk recB good_bounds)
open Ideal (Ts Thing hashT Ans)
open Vault (Vc Vt Vx Vq nonce)
open Disk
open Meter (Mt Mk Mb Mz nxt)
open Seg (pk pack_c pk_shape Packed)
theorem arr_under : Tryz.prog.underlying 47 = some (.array 32 5) := by kernel_rfl
theorem tcells_1 (a : Nat) (e : Int) (s : Nat) (h : List UInt8) : (tcells a e s h)[1]? = some (.int .i64 e) := rfl
theorem tcells_2 (a : Nat) (e : Int) (s : Nat) (h : List UInt8) : (tcells a e s h)[2]? = some (.int .i64 (s : Int)) := rfl
theorem tcells_h (a : Nat) (e : Int) (s : Nat) (h : List UInt8) : ∀ j v, (bvs h)[j]? = some v → (tcells a e s h)[3 + j]? = some v := by
 intro j v hv; rw [show 3 + j = j + 1 + 1 + 1 by omega]; exact hv
theorem tcells_set (a : Nat) (e : Int) (s s2 : Nat) (h h2 : List UInt8) (hl : h.length = 32) (hl2 : h2.length = 32) : splice ((tcells a e s h).set 2 (.int .i64 (s2 : Int))) 3 (bvs h2) = tcells a e s2 h2 := by
 unfold splice
 simp only [tcells, List.set_cons_zero, List.set_cons_succ, List.take_succ_cons, List.take_zero, bvs_length, hl2]
 rw [show 3 + 32 = 32 + 1 + 1 + 1 by omega]
 simp only [List.drop_succ_cons]
 rw [List.drop_of_length_le (by rw [bvs_length, hl]; exact Nat.le_refl _), List.append_nil]
 rfl
theorem Pb.area {w wr w2 : World} {z : Zf} {v : Zv} {D : Dk} {t : Mt} {B : Nat → Prop} {a : Nat} {A : Ar} {s : List UInt8} (h : Pb w wr z v D t B) (ha : B a) (p : AddP areaP D z.g z.N z.S v.W a A s wr w2) :
    ∃ W2 c2, Pb w w2 z ⟨v.x, W2, c2⟩ (aAdd D A s).1 t B ∧ IsA w2 a z.g (aAdd D A s).2.1 ∧ (∀ j, own z ⟨v.x, W2, c2⟩ j → own z v j ∨ wr.heap.size ≤ j) ∧ Kp (fun j => own z v j ∨ j = a) wr w2 := by
 obtain ⟨W2, c2, hd, k, hn, hi⟩ := p
 have hdf : ∀ j, dF z.g z.N z.S W2 j → dF z.g z.N z.S v.W j ∨ wr.heap.size ≤ j := Dz.df (w := wr) (w2 := w2) hn
 obtain ⟨a1, a2, a3⟩ := h.be a ha
 have hs : ∀ j, own z ⟨v.x, W2, c2⟩ j → own z v j ∨ wr.heap.size ≤ j := fun j e => by
  rcases e with e | e | e
  · exact .inl (.inl e)
  · exact (hdf j e).imp (fun e => .inr (.inl e)) id
  · exact .inl (.inr (.inr e))
 have hw := h.kp.size
 refine ⟨W2, c2, ⟨h.vx.keepD h.dream k (fun j hj e e2 => ?_), h.dream, hd, h.me.keep k (fun e => ?_), h.kp.since k (fun j e => ?_), fun j e => ?_, fun j e => ⟨fun e2 => ?_, (h.vd j e).2⟩, fun e => ?_, h.be_next hs k.size⟩, hi, hs, k.mono (fun j _ e => ?_)⟩
 · rcases e with e | e
   · exact (h.vd j e2).1 e
   · exact a3 (.inl (e ▸ e2))
 · rcases e with e | e
   · exact h.dm e
   · exact a3 (.inr (.inr e.symm))
 · rcases e with e | e
   · exact h.new j (.inr (.inl e))
   · exact e ▸ a1
 · rcases hs j e with e | e
   · exact h.new j e
   · omega
 · rcases hdf j e2 with e3 | e3
   · exact (h.vd j e).1 e3
   · have := h.vx.lt j e; omega
 · rcases hdf _ e with e | e
   · exact h.dm e
   · have := h.me.b.lt; omega
 · rcases e with e | e
   · exact .inl (.inr (.inl e))
   · exact .inr e
structure KL (w wr : World) (z : Zf) (v : Zv) (t : Mt) (B : Nat → Prop) (l a q : Nat) (lc : List Value) (e : Int) (s : Nat) (ls : List (List Rec)) (K : Kr) (f0 k0 n0 : Nat) (i : Nat) (wi : World) (v2 : Zv) (D2 : Dk) (A2 : Ar) (s2 : Nat) (h2 : List UInt8) : Prop where
 b : Pb w wi z v2 D2 t (fun j => B j ∨ j = l ∨ j = q ∨ j = a)
 sub : ∀ j, own z v2 j → own z v j ∨ wr.heap.size ≤ j
 k : Kp (fun j => own z v j ∨ j = q ∨ j = a) wr wi
 lg : Blk wi l 106 lc
 tq : Blk wi q 104 (tcells a e s2 h2)
 ar : IsA wi a z.g A2
 pre : Pre z.c.lim e v2.x.o D2 A2 s2 h2 (ls.drop i)
 fin : keepT z.c.ms z.c.lim e v2.x.o D2 A2 s2 h2 (ls.drop i) = K
 num : s2 = s + (ls.take i).flatten.length
 few : v2.x.o.few (f0 + 6 * (ls.take i).flatten.length)
 cl : v2.x.cl ≤ v.x.cl + (ls.take i).flatten.length
 onc : Onc e s (ls.take i).flatten v.x.sl v.x.cl v2.x.sl v2.x.cl
 sm : Sm D2 (k0 + secsum (ls.take i)) n0
def Fre (wr : World) (z : Zf) (v : Zv) (q a : Nat) (A : Option Addr) : Prop := ∀ j, ab A = some j → j < wr.heap.size ∧ ¬ (own z v j ∨ j = q ∨ j = a)
structure Pk3 where
 x : Vt
 X : Option Addr
 cX : Nat
structure PkR (wi : World) (c : Vc) (x : Vt) (R : Packed) (e : Int) (s : Nat) (rs : List Rec) (y : Pk3) (w' : World) : Prop where
 q : Vq wi c x w' y.x
 o : y.x.o = R.o
 cl : y.x.cl ≤ x.cl + rs.length
 onc : Onc e s rs x.sl x.cl y.x.sl y.x.cl
 ans : Ans wi w' y.x.P y.X y.cX R.b
structure KP (w wr : World) (z : Zf) (v : Zv) (B : Nat → Prop) (l a q : Nat) (lc : List Value) (e : Int) (s : Nat) (ls : List (List Rec)) (G : Gr) (w2 : World) (v2 : Zv) : Prop where
 b : Pb w w2 z v2 G.D G.t (fun j => B j ∨ j = l ∨ j = q ∨ j = a)
 sub : ∀ j, own z v2 j → own z v j ∨ wr.heap.size ≤ j
 k : Kp (fun j => own z v j ∨ j = q ∨ j = a) wr w2
 lg : Blk w2 l 106 lc
 tq : Blk w2 q 104 (tcells a e G.s G.h)
 ar : IsA w2 a z.g G.A
 o : v2.x.o = G.o
 cl : v2.x.cl ≤ v.x.cl + ls.flatten.length
 onc : Onc e s ls.flatten v.x.sl v.x.cl v2.x.sl v2.x.cl
theorem flat_snoc (ls : List (List Rec)) (i : Nat) (h : i < ls.length) : (ls.take (i + 1)).flatten = (ls.take i).flatten ++ ls[i] := by
 rw [List.take_add_one, List.getElem?_eq_getElem h, List.flatten_append]
 simp only [Option.toList_some, List.flatten_cons, List.flatten_nil, List.append_nil]
theorem flat_take_le (ls : List (List Rec)) (i : Nat) : (ls.take i).flatten.length ≤ ls.flatten.length := by
 conv => rhs; rw [← List.take_append_drop i ls]
 rw [List.flatten_append, List.length_append]; omega
theorem flat_pre (ls : List (List Rec)) (i : Nat) : ls.flatten = (ls.take i).flatten ++ (ls.drop i).flatten := by
 rw [← List.flatten_append, List.take_append_drop]
theorem pk_subO {o : Ts} {ms : List UInt8} {lim : Nat} {e s : Int} {h : List UInt8} {l : List Rec} (hd : ∃ ts, o = .dream ts) (h0 : (pk o ms lim e s h l).e = 0) : o.sub (pk o ms lim e s h l).o := pk_sub o ms lim e s h l (by obtain ⟨ts, rfl⟩ := hd; trivial) h0
theorem sub_dream {o p : Ts} (h : o.sub p) : (∃ ts, o = .dream ts) → ∃ ts, p = .dream ts := by
 induction h with
 | refl => exact id
 | @step p t g ih =>
   intro e
   obtain ⟨ts, h1⟩ := ih e
   subst h1
   exact ⟨_, rfl⟩
theorem dream_long {o : Ts} : (∃ ts, o = .dream ts) → o.long := fun ⟨ts, e⟩ => by subst e; trivial
theorem PkR.alloc {wi w' : World} {c : Vc} {x : Vt} {R : Packed} {e : Int} {s : Nat} {rs : List Rec} {y : Pk3} (h : PkR wi c x R e s rs y w') (ob : Obj) : PkR wi c x R e s rs y (w'.alloc ob) :=
 ⟨h.q.over0 ((Kp.refl nob w').alloc ob), h.o, h.cl, h.onc, ⟨h.ans.row.alloc ob, h.ans.far, h.ans.cap, h.ans.mx, h.ans.nil⟩⟩
theorem PkR.far {wi w' w2 : World} {c : Vc} {x : Vt} {R : Packed} {e : Int} {s : Nat} {rs : List Rec} {y : Pk3} {g : Nat} (h : PkR wi c x R e s rs y w') (hb : c.b ≤ wi.heap.size) (hg : wi.heap.size ≤ g) (hn : ¬ (y.x.P g ∨ ab y.X = some g)) (k : Kp (fun i => i = g) w' w2) : PkR wi c x R e s rs y w2 :=
 ⟨h.q.over k (fun i _ e => by have e : i = g := e; subst e; exact ⟨hg, fun e => hn (.inl e)⟩) hb, h.o, h.cl, h.onc, ⟨h.ans.row.keep k (fun i e e2 => hn (.inr (by have e2 : i = g := e2; rw [← e2]; exact e))), h.ans.far, h.ans.cap, h.ans.mx, h.ans.nil⟩⟩
theorem PkR.lt {wi w' : World} {c : Vc} {x : Vt} {R : Packed} {e : Int} {s : Nat} {rs : List Rec} {y : Pk3} (h : PkR wi c x R e s rs y w') (hne : R.b ≠ []) : ∀ i, (y.x.P i ∨ ab y.X = some i) → i < w'.heap.size := fun i e => by
 rcases e with e | e
 · exact h.q.now.lt i e
 · exact h.ans.row.lt (fun e2 => hne (by have := congrArg List.length e2; rw [bvs_length] at this; exact List.eq_nil_of_length_eq_zero this)) i e
theorem pack_step {wi : World} {c : Vc} {x : Vt} {e : Int} {s : Nat} {h2 : List UInt8} {A : Option Addr} {m d : Nat} {rs : List Rec} (hx : Vx wi c x) (h32 : h2.length = 32) (hl : rs.length = m) (hr : Rrow wi A rs) (hfar : ∀ i, ab A = some i → ¬ x.P i)
    (hm : m ≤ 1000) (hb : ∀ r ∈ rs, r.body.length ≤ 4096) (hf : x.o.few 80000) (hlo : x.o.long) (hcl : x.cl ≤ 1000000) (he : 0 ≤ e ∧ e < 4294967296) (hs : (s : Int) ≤ 9223372036854775807) (hlim : c.lim ≤ 9223372036854775807) (R : Packed) (hR : R = pk x.o c.ms c.lim e (s : Nat) h2 rs) (h0 : R.e = 0) (hh : R.h.length = 32) (w1 : World) (k : Kp nob wi w1) :
    Calls Tryz.prog 79 #[.pointer (some ⟨c.v, 0, none⟩), .int .i64 e, .int .i64 (s : Int), .agg (bvs h2).toArray, .slice A m d] w1 fun r w' => ∃ y : Pk3, r = .returned (.tuple #[.slice y.X R.b.length y.cX, .agg (bvs R.h).toArray, .int .i64 0]) ∧ R.h.length = 32 ∧ PkR wi c x R e s rs y w' ∧ (∀ i, (y.x.P i ∨ ab y.X = some i) → x.P i ∨ w1.heap.size ≤ i) ∧ Kp x.P w1 w' := by
 have hc := pack_c c x e (s : Nat) h2 A m d rs w1 (hx.keep0 k) h32 hl (Row.keep0 hr k) (.inr hfar) hm hb hf hlo hcl (by omega) (by omega) hlim
 rw [← hR, h0] at hc
 refine hc.mono ?_
 rintro r w' ⟨F2, P2, sl2, cl2, X, cX, rfl, hq, ⟨h1, h2'⟩, ha⟩
 refine ⟨⟨⟨F2, P2, R.o, sl2, cl2⟩, X, cX⟩, rfl, hh, ⟨hq.back k, rfl, by rw [hl]; exact h1, onc_of hl h2', ⟨ha.row, fun i e => ⟨Nat.le_trans k.size (ha.far i e).1, (ha.far i e).2⟩, ha.cap, ha.mx, ha.nil⟩⟩, fun i e => ?_, hq.kp⟩
 rcases e with e | e
 · exact hq.P i e
 · exact .inr (ha.far i e).1
structure KA (w wb : World) (z : Zf) (v : Zv) (t : Mt) (B : Nat → Prop) (l a q : Nat) (lc tc : List Value) (D3 : Dk) (A3 : Ar) (w3 : World) (v3 : Zv) : Prop where
 b : Pb w w3 z v3 D3 t (fun j => B j ∨ j = l ∨ j = q ∨ j = a)
 sub : ∀ j, own z v3 j → own z v j ∨ wb.heap.size ≤ j
 k : Kp (fun j => own z v j ∨ j = q ∨ j = a) wb w3
 lg : Blk w3 l 106 lc
 tq : Blk w3 q 104 tc
 ar : IsA w3 a z.g A3
theorem KL.added {w wb wr w2 w3 : World} {z : Zf} {v v2 : Zv} {t : Mt} {B : Nat → Prop} {l a q : Nat} {lc : List Value} {e : Int} {s : Nat} {ls : List (List Rec)} {K : Kr} {f0 k0 n0 i : Nat} {D2 : Dk} {A2 : Ar} {s2 : Nat} {h2 : List UInt8} {R : Packed} {y : Pk3}
    (h : KL w wb z v t B l a q lc e s ls K f0 k0 n0 i wr v2 D2 A2 s2 h2) (hne : l ≠ q ∧ l ≠ a ∧ q ≠ a) (p : Pq w wr z v2 w2 ⟨y.x, v2.W, v2.cW⟩ D2 t (fun j => B j ∨ j = l ∨ j = q ∨ j = a)) (hA : AddP areaP D2 z.g z.N z.S v2.W a A2 R.b w2 w3) :
    ∃ W3 c3, KA w wb z v t B l a q lc (tcells a e s2 h2) (aAdd D2 A2 R.b).1 (aAdd D2 A2 R.b).2.1 w3 ⟨y.x, W3, c3⟩ := by
 obtain ⟨W3, c3, b3, a3, s3, k3⟩ := p.b.area (.inr (.inr (.inr rfl))) hA
 have hnl : ∀ j, (j = l ∨ j = q) → ¬ (own z ⟨y.x, v2.W, v2.cW⟩ j ∨ j = a) := fun j e e2 => by
  rcases e2 with e2 | e2
  · exact (p.b.be j (e.elim (fun e => .inr (.inl e)) (fun e => .inr (.inr (.inl e))))).2.2 e2
  · rcases e with e | e
    · exact hne.2.1 (e ▸ e2)
    · exact hne.2.2 (e ▸ e2)
 have hno : ∀ j, (j = l ∨ j = q) → ¬ own z v2 j := fun j e => (h.b.be j (e.elim (fun e => .inr (.inl e)) (fun e => .inr (.inr (.inl e))))).2.2
 refine ⟨W3, c3, b3, fun j e => ?_, (h.k.trans p.k (fun j e => (h.sub j e).imp .inl id)).trans k3 (fun j e => ?_), (h.lg.keep p.k (hno l (.inl rfl))).keep k3 (hnl l (.inl rfl)), (h.tq.keep p.k (hno q (.inr rfl))).keep k3 (hnl q (.inr rfl)), a3⟩
 · have hz := h.k.size
   rcases s3 j e with e | e
   · rcases p.sub j e with e | e
     · exact h.sub j e
     · exact .inr (by omega)
   · have := p.k.size; exact .inr (by omega)
 · have hz := h.k.size
   rcases e with e | e
   · rcases p.sub j e with e | e
     · exact (h.sub j e).imp .inl id
     · exact .inr (by omega)
   · exact .inl (.inr (.inr e))
theorem KL.told {w wb wr w2 : World} {z : Zf} {v v2 : Zv} {t : Mt} {B : Nat → Prop} {l a q : Nat} {lc : List Value} {e : Int} {s : Nat} {ls : List (List Rec)} {K : Kr} {f0 k0 n0 i : Nat} {D2 : Dk} {A2 : Ar} {s2 : Nat} {h2 : List UInt8} {R : Packed} {rs : List Rec} {y : Pk3}
    (h : KL w wb z v t B l a q lc e s ls K f0 k0 n0 i wr v2 D2 A2 s2 h2) (hR : PkR wr z.c v2.x R e s2 rs y w2) (hf : (ls.take (i + 1)).flatten = (ls.take i).flatten ++ rs) :
    y.x.cl ≤ v.x.cl + (ls.take (i + 1)).flatten.length ∧ Onc e s (ls.take (i + 1)).flatten v.x.sl v.x.cl y.x.sl y.x.cl := by
 have h1 := hR.onc
 rw [h.num] at h1
 rw [hf]
 exact ⟨by rw [List.length_append]; have := hR.cl; have := h.cl; omega, h.onc.app h1⟩
theorem keep_c {w wb : World} {z : Zf} {v : Zv} {D : Dk} {t : Mt} {B : Nat → Prop} (l a q : Nat) (lc : List Value) (e : Int) (s : Nat) (h : List UInt8) (A : Ar) (X : Option Addr) (n cx : Nat) (ps : List Sr) (f0 k0 n0 : Nat)
    (hb : Pb w wb z v D t (fun j => B j ∨ j = l ∨ j = q ∨ j = a)) (hlg : Blk wb l 106 lc) (hlc : lc[0]? = some (.pointer (some ⟨z.c.v, 0, none⟩)) ∧ lc[1]? = some (.pointer (some ⟨z.g, 0, none⟩)) ∧ lc[2]? = some (.pointer (some ⟨z.m, 0, none⟩)))
    (htq : Blk wb q 104 (tcells a e s h)) (har : IsA wb a z.g A) (hne : l ≠ q ∧ l ≠ a ∧ q ≠ a) (hn : ps.length = n) (hrow : Row wb X (ps.map Sr.v)) (hX : Fre wb z v q a X) (hok : ∀ p ∈ ps, SrOk wb p ∧ Fre wb z v q a p.A)
    (hP : Pre z.c.lim e v.x.o D A s h (ps.map (·.rs))) (hf : v.x.o.few f0) (hbd : (ps.map (·.rs)).flatten.length ≤ 1000 ∧ f0 + 6000 ≤ 80000 ∧ v.x.cl + 1000 ≤ 1000000 ∧ k0 + secsum (ps.map (·.rs)) + 2 ≤ 90000 ∧ z.c.lim ≤ 9223372036854775807) (hsm : Sm D k0 n0) (hn1 : n ≤ 1000) :
    Calls Tryz.prog 67 #[.pointer (some ⟨l, 0, none⟩), .pointer (some ⟨q, 0, none⟩), .slice X n cx] wb fun r w' => r = .returned (.int .i64 (goOnK t e (keepT z.c.ms z.c.lim e v.x.o D A s h (ps.map (·.rs)))).e) ∧ ∃ v2, KP w wb z v B l a q lc e s (ps.map (·.rs)) (goOnK t e (keepT z.c.ms z.c.lim e v.x.o D A s h (ps.map (·.rs)))) w' v2 := by
 obtain ⟨ls, hls⟩ : ∃ ls, ls = ps.map (·.rs) := ⟨_, rfl⟩
 obtain ⟨K, hK⟩ : ∃ K, K = keepT z.c.ms z.c.lim e v.x.o D A s h ls := ⟨_, rfl⟩
 rw [← hls] at hP hbd ⊢
 rw [← hK]
 have hlen : ls.length = n := by rw [hls, List.length_map, hn]
 have HKL := Lib.hid (show KL w wb z v t B l a q lc e s ls K f0 k0 n0 0 wb v D A s h from ⟨hb, fun j e => .inl e, Kp.refl _ _, hlg, htq, har, hP, hK.symm, by simp, by simpa using hf, by simp, Onc.refl _ _ _ _ _, by simpa [secsum] using hsm⟩)
 have HLC := Lib.hid hlc
 have HNE := Lib.hid hne
 have HN := Lib.hid (And.intro hn (And.intro hls hlen))
 have HRW := Lib.hid (And.intro hrow hX)
 have HOK := Lib.hid hok
 have HBD := Lib.hid hbd
 have HN1 := Lib.hid hn1
 clear hb hlg hlc htq har hne hn hls hlen hrow hX hok hP hf hbd hsm hK hn1
 go_enter Tryz.func67, Tryz.ntmps67
 go_wp2
 go_loopw [16] (fun i wi => ∃ k : Nat, k ≤ n ∧ i = .int .i64 k ∧ ∃ (v2 : Zv) (D2 : Dk) (A2 : Ar) (s2 : Nat) (h2 : List UInt8), KL w wb z v t B l a q lc e s ls K f0 k0 n0 k wi v2 D2 A2 s2 h2)
  (fun i _ => n - (intOf i).toNat)
 case atStart => exact ⟨0, Nat.zero_le _, rfl, v, D, A, s, h, HKL.out⟩
 case round =>
  clear HKL
  obtain ⟨k, hk, rfl, v2, D2, A2, s2, h2, hkl⟩ := hrel
  have HKL := Lib.hid hkl
  by_cases hlt : k < n
  · have hkp : k < ps.length := by rw [HN.out.1]; exact hlt
    have hrw : Row wr X (ps.map Sr.v) := HRW.out.1.keep hkl.k (fun j e => (HRW.out.2 j e).2)
    obtain ⟨bb, oo, hXe, hbb, hc0⟩ := sr_row hrw k hkp
    have hmem : ps[k]'hkp ∈ ps := List.getElem_mem _
    have hso : SrOk wr (ps[k]'hkp) := (HOK.out _ hmem).1.keep hkl.k (fun i e => ((HOK.out _ hmem).2 i e).2)
    have hfr := (HOK.out _ hmem).2
    have hdrop : ls.drop k = (ps[k]'hkp).rs :: ls.drop (k + 1) := by
     rw [List.drop_eq_getElem_cons (by rw [HN.out.2.2]; exact hlt)]
     congr 1
     simp [HN.out.2.1]
    have hflat : (ls.take (k + 1)).flatten = (ls.take k).flatten ++ (ps[k]'hkp).rs := by
     rw [flat_snoc ls k (by rw [HN.out.2.2]; exact hlt)]
     congr 1
     simp [HN.out.2.1]
    have hsec : secsum (ls.take (k + 1)) = secsum (ls.take k) + fsec (ps[k]'hkp).rs := by
     rw [secsum_take ls k (by rw [HN.out.2.2]; exact hlt)]
     congr 2
     simp [HN.out.2.1]
    obtain ⟨p, hp⟩ : ∃ p, p = ps[k]'hkp := ⟨_, rfl⟩
    rw [← hp] at hc0 hso hfr hdrop hflat hsec
    have hpre := hkl.pre
    rw [hdrop] at hpre
    have hst := step1 (ms := z.c.ms) hpre
    obtain ⟨R, hR⟩ : ∃ R, R = pk v2.x.o z.c.ms z.c.lim e (s2 : Nat) h2 p.rs := ⟨_, rfl⟩
    have hfin := hkl.fin
    rw [hdrop] at hfin
    have hft1 := flat_take_le ls (k + 1)
    have hbd := HBD.out
    have hfl : (ls.take (k + 1)).flatten.length = (ls.take k).flatten.length + p.rs.length := by rw [hflat, List.length_append]
    have hgd := hpre.good p.rs (by simp)
    have hlims := hpre.lim
    have hXF : ∀ j, j < wb.heap.size → ¬ own z v j → ¬ own z v2 j := fun j h1 h2 e => (hkl.sub j e).elim h2 (fun e => by omega)
    have hs2 : (s2 : Int) ≤ 9223372036854775807 := by have := hbd.2.2.2.2; omega
    have hPC := fun w1 (kw : Kp nob wr w1) => pack_step (d := p.c) hkl.b.vx hpre.h32 hso.len hso.row (fun i e => fun e2 => hXF i (hfr i e).1 (fun e3 => (hfr i e).2 (.inl e3)) (.inl e2)) (by have := hso.len; omega) (fun r hr => by have := good_bounds r (hgd.good r hr); omega)
     (hkl.few.mono (by omega)) (dream_long hkl.b.dream) (by have := hkl.cl; omega) hpre.ep hs2 hbd.2.2.2.2 R hR (by rw [hR]; exact hst.pk0) (by rw [hR]; exact hst.h32) w1 kw
    obtain ⟨t_pk0, t_len, t_ne, t_h32, t_few, t_sm, t_pos, t_add, t_next⟩ := hst
    rw [← hR] at t_pk0 t_len t_ne t_h32 t_few t_sm t_add t_next
    have HPC := Lib.hid hPC
    have HST := Lib.hid (And.intro t_pk0 (And.intro t_len (And.intro t_ne (And.intro t_h32 (And.intro t_few (And.intro t_sm (And.intro t_pos (And.intro t_add t_next))))))))
    have HF := Lib.hid (And.intro hflat (And.intro hsec hdrop))
    have HFIN := Lib.hid hfin
    have HRR := Lib.hid hR
    have HSO := Lib.hid (And.intro hso hfr)
    have HL := Lib.hid (And.intro hfl hft1)
    have hnl : ¬ v2.x.P l ∧ ¬ v2.x.P q ∧ ¬ v2.x.P a := ⟨fun e => (hkl.b.be l (.inr (.inl rfl))).2.2 (.inl e), fun e => (hkl.b.be q (.inr (.inr (.inl rfl)))).2.2 (.inl e), fun e => (hkl.b.be a (.inr (.inr (.inr rfl)))).2.2 (.inl e)⟩
    have HNL := Lib.hid hnl
    have hgo : wr.heap.size = wr.heap.size := rfl
    subst hXe
    clear hkl hrw hmem hso hfr hdrop hflat hsec hpre t_pk0 t_len t_ne t_h32 t_few t_sm t_pos t_add t_next hfin hft1 hbd hfl hgd hlims hXF hPC hR hp hnl hgo hs2
    go_wp2
    refine reg_begin (fun w' => Kp v2.x.P wr w') (by kernel_rfl) ((Kp.refl _ wr).drew) (fun HS => ?_)
    refine reg_tk (v := .pointer (some ⟨l, 0, none⟩)) 0 21 rfl rfl (by kernel_rfl) (by rfl) HS (fun w' hw => by go_simp) ?_; simp only [Act.put, zp1, zp2, zp3]
    refine reg_tk (v := .pointer (some ⟨l, 0, none⟩)) 1 22 rfl rfl (by kernel_rfl) (by rfl) HS (fun w' hw => by go_simp) ?_; simp only [Act.put, zp1, zp2, zp3]
    refine reg_tk (v := .pointer (some ⟨l, 0, none⟩)) 2 23 rfl rfl (by kernel_rfl) (by rfl) HS (fun w' hw => by go_simp) ?_; simp only [Act.put, zp1, zp2, zp3]
    refine reg_tk (v := .pointer (some ⟨z.c.v, 0, none⟩)) 3 24 rfl rfl (by kernel_rfl) (by rfl) HS (fun w' hw => by have c := (HKL.out.lg.keep hw HNL.out.1).cell 0; rw [HLC.out.1] at c; go_simp) ?_; simp only [Act.put, zp1, zp2, zp3]
    refine reg_tk (v := .pointer (some ⟨q, 0, none⟩)) 4 25 rfl rfl (by kernel_rfl) (by rfl) HS (fun w' hw => by go_simp) ?_; simp only [Act.put, zp1, zp2, zp3]
    refine reg_tk (v := .pointer (some ⟨q, 0, none⟩)) 5 26 rfl rfl (by kernel_rfl) (by rfl) HS (fun w' hw => by go_simp) ?_; simp only [Act.put, zp1, zp2, zp3]
    refine reg_tk (v := .pointer (some ⟨q, 1, none⟩)) 6 27 rfl rfl (by kernel_rfl) (by rfl) HS (fun w' hw => by go_simp) ?_; simp only [Act.put, zp1, zp2, zp3]
    refine reg_tk (v := .int .i64 e) 7 28 rfl rfl (by kernel_rfl) (by rfl) HS (fun w' hw => by have c := (HKL.out.tq.keep hw HNL.out.2.1).cell 1; rw [tcells_1] at c; go_simp) ?_; simp only [Act.put, zp1, zp2, zp3]
    refine reg_tk (v := .pointer (some ⟨q, 0, none⟩)) 8 29 rfl rfl (by kernel_rfl) (by rfl) HS (fun w' hw => by go_simp) ?_; simp only [Act.put, zp1, zp2, zp3]
    refine reg_tk (v := .pointer (some ⟨q, 0, none⟩)) 9 30 rfl rfl (by kernel_rfl) (by rfl) HS (fun w' hw => by go_simp) ?_; simp only [Act.put, zp1, zp2, zp3]
    refine reg_tk (v := .pointer (some ⟨q, 2, none⟩)) 10 31 rfl rfl (by kernel_rfl) (by rfl) HS (fun w' hw => by go_simp) ?_; simp only [Act.put, zp1, zp2, zp3]
    refine reg_tk (v := .int .i64 (s2 : Int)) 11 32 rfl rfl (by kernel_rfl) (by rfl) HS (fun w' hw => by have c := (HKL.out.tq.keep hw HNL.out.2.1).cell 2; rw [tcells_2] at c; go_simp) ?_; simp only [Act.put, zp1, zp2, zp3]
    refine reg_tk (v := .pointer (some ⟨q, 0, none⟩)) 12 33 rfl rfl (by kernel_rfl) (by rfl) HS (fun w' hw => by go_simp) ?_; simp only [Act.put, zp1, zp2, zp3]
    refine reg_tk (v := .pointer (some ⟨q, 0, none⟩)) 13 34 rfl rfl (by kernel_rfl) (by rfl) HS (fun w' hw => by go_simp) ?_; simp only [Act.put, zp1, zp2, zp3]
    refine reg_tk (v := .pointer (some ⟨q, 3, none⟩)) 14 35 rfl rfl (by kernel_rfl) (by rfl) HS (fun w' hw => by go_simp) ?_; simp only [Act.put, zp1, zp2, zp3]
    refine reg_load 15 (some 36) 47 (.tmp 35) rfl rfl rfl (by kernel_rfl) (by kernel_rfl) (by kernel_rfl) (by rfl) HS q 3 rfl (bvs h2) _ (fun w' hw => (HKL.out.tq.keep hw HNL.out.2.1).part 3 (bvs h2) (tcells_h a e s2 h2)) arr_under rfl (arr_size h2 HKL.out.pre.h32) ?_; simp only [Act.put, zp1, zp2, zp3]
    refine reg_tk (v := .slice p.A p.n p.c) 16 37 rfl rfl (by kernel_rfl) (by rfl) HS (fun w' hw => by go_simp) ?_; simp only [Act.put, zp1, zp2, zp3]
    refine reg_pack3 (Y := Pk3) 17 22 24 18 19 20 21 23 25 38 20 39 40 41 10 _ _ _ _ _ _ _ _ _ [(22, some 10), (17, some 38), (18, some 20), (19, some 39), (20, some 40), (21, some 41), (23, some 9), (25, some 11), (24, none)] _ _ _ _ 0 26 (fun w' => Kp nob wr w') (fun y w' => PkR wr z.c v2.x R e s2 p.rs y w') v2.x.P (fun y i => y.x.P i ∨ ab y.X = some i) (fun y => .slice y.X R.b.length y.cX) (fun _ => R.h) (fun _ => 0) wr.heap.size 79 #[.pointer (some ⟨z.c.v, 0, none⟩), .int .i64 e, .int .i64 (s2 : Int), .agg (bvs h2).toArray, .slice p.A p.n p.c]
     rfl rfl rfl (by kernel_rfl) (by kernel_rfl) (by kernel_rfl) (by kernel_rfl) (by kernel_rfl) (by kernel_rfl) rfl (by kernel_rfl) (by decide)
     ⟨rfl, rfl⟩ ⟨rfl, rfl, rfl⟩ ⟨rfl, rfl⟩ ⟨rfl, rfl, rfl⟩ ⟨rfl, rfl, rfl, by kernel_rfl⟩ ⟨rfl, rfl, rfl, by kernel_rfl⟩ ⟨rfl, rfl, rfl, by kernel_rfl⟩ ⟨rfl, rfl, by kernel_rfl⟩ ⟨rfl, rfl, by kernel_rfl⟩ (by kernel_rfl)
     (fun w' h => h.nob _) (fun y w' h => h.q.kp) (fun w' h => h.size) (fun y w' h => h.q.kp.size) (fun w' o h => h.alloc o) (fun y w' o h => h.alloc o)
     (fun i e => HKL.out.b.vx.lt i e) (fun y w' h => h.lt HST.out.2.2.1) (fun y w' w3 g hy hg hn k => hy.far HKL.out.b.vx.sz hg hn k) ((Kp.refl _ _).drew) ?hca (fun w' h => HPC.out w' h) ?hK
    case hca =>
     intro a1 w1 he
     exact exec_func 79 _ _ [.pointer (some ⟨z.c.v, 0, none⟩), .int .i64 e, .int .i64 (s2 : Int), .agg (bvs h2).toArray, .slice p.A p.n p.c] rfl (by kernel_rfl) (by
      show [a1.eval (.tmp 24), a1.eval (.tmp 28), a1.eval (.tmp 32), a1.eval (.tmp 36), a1.eval (.tmp 37)] = _
      rw [he 24 (by kernel_rfl), he 28 (by kernel_rfl), he 32 (by kernel_rfl), he 36 (by kernel_rfl), he 37 (by kernel_rfl)]
      rfl)
    case hK =>
     intro vals y hb w2 v17 v22 v18 v19 v20 v21 v23 v25 v24 hb2 hq2 hno hR2
     simp only [putZ, v17, v18, v19, v20, v21, v22, v23, v24, v25]
     simp only [Act.put, zp1, zp2, zp3]
     refine reg_end (by kernel_rfl) ?_
     have hdr : ∃ ts, y.x.o = .dream ts := sub_dream (by rw [hR2.o, HRR.out]; exact pk_subO HKL.out.b.dream (by rw [← HRR.out]; exact HST.out.1)) HKL.out.b.dream
     have hpq := HKL.out.b.vault hR2.q hdr
     have htold := HKL.out.told hR2 HF.out.1
     have hnq : ∀ j, (j = l ∨ j = q ∨ j = a) → ¬ own z v2 j := fun j e => (HKL.out.b.be j (.inr e)).2.2
     have HTQ2 := Lib.hid (HKL.out.tq.keep hpq.k (hnq q (.inr (.inl rfl))))
     have har2 := areaP.keep HKL.out.ar hpq.k (hnq a (.inr (.inr rfl)))
     have hbe := hpq.b.be a (.inr (.inr (.inr rfl)))
     have hma := HKL.out.pre.top
     have hmx := HKL.out.b.cd.max
     have hsm := HKL.out.sm
     have hbk := HBD.out
     have hsl := secsum_le ls k
     have HAC := Lib.hid (add_c D2 z.g z.N z.S v2.W v2.cW a A2 y.X R.b.length y.cX R.b w2 hpq.b.cd har2 (fun e => hbe.2.2 (.inr (.inl e))) HST.out.2.2.2.2.2.2.1.1 hma (Sm.far_ hsm (by omega)) rfl hR2.ans.row hR2.ans.cap hR2.ans.mx hR2.ans.nil
      (.inr (fun i e e2 => by
        have h1 := (hR2.ans.far i e).1
        rcases e2 with e2 | e2
        · have := HKL.out.b.cd.lt i e2; omega
        · have h3 : a < wr.heap.size := Blk.lt HKL.out.ar
          omega)) (by have := HST.out.2.1; omega))
     have HB2 := Lib.hid (And.intro hb2 hq2)
     have HPQ := Lib.hid hpq
     have HTD := Lib.hid htold
     have HNO := Lib.hid hno
     have HO := Lib.hid (And.intro hR2.o hdr)
     have c0 : w2.cell? ⟨q, 0, none⟩ = some (.pointer (some ⟨a, 0, none⟩)) := HTQ2.out.cell 0
     clear hdr hpq htold hnq har2 hbe hma hmx hsm hbk hsl hb2 hq2 hno hR2 HPC HS
     go_wp2_with fail
     refine HAC.out.mono ?_
     rintro r w3 ⟨rfl, hA⟩
     obtain ⟨W3, c3, hka⟩ := HKL.out.added HNE.out HPQ.out hA
     have HB3 : Hid (Blk w3 hb 47 (bvs R.h)) := Lib.hid (by
      obtain ⟨_, _, _, kA, _, _⟩ := hA
      refine HB2.out.1.keep kA (fun e2 => ?_)
      have h1 := HB2.out.2
      rcases e2 with e2 | e2
      · have := HKL.out.b.cd.lt hb e2; omega
      · have h3 : a < wr.heap.size := Blk.lt HKL.out.ar
        omega)
     have HKA := Lib.hid hka
     obtain ⟨DA, hDA⟩ : ∃ x, x = aAdd D2 A2 R.b := ⟨_, rfl⟩
     have HDA := Lib.hid hDA
     rw [← hDA] at HKA ⊢
     clear hA hka c0 HAC hDA
     rcases HST.out.2.2.2.2.2.2.2.1 with he | he
     · rw [← HDA.out] at he
       rw [he]
       have HE := Lib.hid he
       clear he
       have HNQ : Hid (¬ oneB q hb) := Lib.hid (fun e => by have e : hb = q := e; have h1 := (HKL.out.b.be q (.inr (.inr (.inl rfl)))).2.1; have h2 := HB2.out.2; omega)
       have hnx := HST.out.2.2.2.2.2.2.2.2 (by rw [← HDA.out]; exact HE.out)
       rw [← HDA.out, HSO.out.1.len] at hnx
       have hn2 : ((s2 + p.n : Nat) : Int) ≤ 9223372036854775807 := by have := hnx.lim; have := HBD.out.2.2.2.2; omega
       have HNX := Lib.hid hnx
       clear hnx
       have e1 : IntKind.i64.wrap ((s2 : Int) + (p.n : Int)) = ((s2 + p.n : Nat) : Int) := by rw [IntWalk.i64_in _ (by omega)]; omega
       go_wp2
       refine reg_begin (fun w' => Kp (oneB q) w3 w') (by kernel_rfl) ((Kp.refl _ w3).drew) (fun HS5 => ?_)
       have hq0 : Blk w3.drew q 104 (tcells a e s2 h2) := HKA.out.tq.keep (Kp.refl nob w3).drew (fun e => e)
       have c2 : w3.drew.cell? ⟨q, 2, none⟩ = some (.int .i64 (s2 : Int)) := hq0.cell 2
       have f2 := hq0.frozen 2
       refine reg_tk (v := .pointer (some ⟨q, 0, none⟩)) 0 54 rfl rfl (by kernel_rfl) (by rfl) HS5 (fun w' hw => by go_simp) ?_; simp only [Act.put, zp1, zp2, zp3]
       refine reg_tk (v := .pointer (some ⟨q, 0, none⟩)) 1 55 rfl rfl (by kernel_rfl) (by rfl) HS5 (fun w' hw => by go_simp) ?_; simp only [Act.put, zp1, zp2, zp3]
       refine reg_tk (v := .pointer (some ⟨q, 0, none⟩)) 2 56 rfl rfl (by kernel_rfl) (by rfl) HS5 (fun w' hw => by go_simp) ?_; simp only [Act.put, zp1, zp2, zp3]
       refine reg_tk (v := .pointer (some ⟨q, 0, none⟩)) 3 57 rfl rfl (by kernel_rfl) (by rfl) HS5 (fun w' hw => by go_simp) ?_; simp only [Act.put, zp1, zp2, zp3]
       refine reg_tk (v := .pointer (some ⟨q, 2, none⟩)) 4 58 rfl rfl (by kernel_rfl) (by rfl) HS5 (fun w' hw => by go_simp) ?_; simp only [Act.put, zp1, zp2, zp3]
       refine reg_tk (v := .slice p.A p.n p.c) 6 60 rfl rfl (by kernel_rfl) (by rfl) HS5 (fun w' hw => by go_simp) ?_; simp only [Act.put, zp1, zp2, zp3]
       refine reg_tk (v := .int .i64 (p.n : Int)) 7 61 rfl rfl (by kernel_rfl) (by rfl) HS5 (fun w' hw => by go_simp) ?_; simp only [Act.put, zp1, zp2, zp3]
       refine reg_load 9 (some 63) 47 (.tmp 10) rfl rfl rfl (by kernel_rfl) (by kernel_rfl) (by kernel_rfl) (by rfl) HS5 hb 0 rfl (bvs R.h) _ (fun w' hw => (HB3.out.keep hw HNQ.out).range) arr_under rfl (arr_size R.h HST.out.2.2.2.1) ?_; simp only [Act.put, zp1, zp2, zp3]
       refine reg_step (v := .int .i64 (s2 : Int)) 5 (some 59) rfl rfl (by kernel_rfl) (by rfl) (by go_simp) HS5 (fun _ => ?_)
       simp only [Act.put, zp1, zp2, zp3]
       refine reg_step (v := .int .i64 ((s2 + p.n : Nat) : Int)) 8 (some 62) rfl rfl (by kernel_rfl) (by rfl) (by go_simp) HS5 (fun _ => ?_)
       simp only [Act.put, zp1, zp2, zp3]
       refine reg_tk (v := .pointer (some ⟨q, 0, none⟩)) 10 64 rfl rfl (by kernel_rfl) (by rfl) HS5 (fun w' hw => by go_simp) ?_; simp only [Act.put, zp1, zp2, zp3]
       refine reg_tk (v := .pointer (some ⟨q, 2, none⟩)) 11 65 rfl rfl (by kernel_rfl) (by rfl) HS5 (fun w' hw => by go_simp) ?_; simp only [Act.put, zp1, zp2, zp3]
       refine reg_mute (w' := w3.drew.setCell ⟨q, 2, none⟩ (.int .i64 ((s2 + p.n : Nat) : Int))) 12 none rfl rfl (by kernel_rfl) (by rfl) (by go_simp) (HS5.setCell (p := ⟨q, 2, none⟩) (.inl rfl) _) (fun HS6 => ?_)
       simp only [Act.put, zp1, zp2, zp3]
       refine reg_tk (v := .pointer (some ⟨q, 0, none⟩)) 13 66 rfl rfl (by kernel_rfl) (by rfl) HS6 (fun w' hw => by go_simp) ?_; simp only [Act.put, zp1, zp2, zp3]
       refine reg_tk (v := .pointer (some ⟨q, 3, none⟩)) 14 67 rfl rfl (by kernel_rfl) (by rfl) HS6 (fun w' hw => by go_simp) ?_; simp only [Act.put, zp1, zp2, zp3]
       have hq1 := hq0.set_ 2 (.int .i64 ((s2 + p.n : Nat) : Int))
       refine reg_storeIn 15 none 47 (.tmp 67) (.tmp 63) rfl rfl rfl (by kernel_rfl) (by rfl) q 3 104 _ (bvs R.h) hq1 rfl rfl (by rw [List.length_set, tcells_length _ _ _ _ HKL.out.pre.h32, bvs_length, HST.out.2.2.2.1]; omega) (arr_size R.h HST.out.2.2.2.1) (bvs_one _) ?_
       intro w4 hb4 k4 hs4
       refine ⟨HS6.trans k4 (fun i e => .inl e), fun _ => ?_⟩
       · simp only [Act.put, zp1, zp2, zp3]
         refine reg_end (by kernel_rfl) ?_
         rw [tcells_set a e s2 (s2 + p.n) h2 R.h HKL.out.pre.h32 HST.out.2.2.2.1] at hb4
         have k4' : Kp (oneB q) w3 w4 := HS6.trans k4 (fun i e => .inl e)
         have HNEW : Hid (KL w wb z v t B l a q lc e s ls K f0 k0 n0 (k + 1) w4 ⟨y.x, W3, c3⟩ DA.1 DA.2.1 (s2 + p.n) R.h) := Lib.hid ⟨HKA.out.b.side k4' (fun j e => .inl (.inr (.inr (.inl e)))), HKA.out.sub, HKA.out.k.trans k4' (fun i e => .inl (.inr (.inl e))), HKA.out.lg.keep k4' (fun e => HNE.out.1 e), hb4, areaP.keep HKA.out.ar k4' (fun e => HNE.out.2.2 e.symm),
          (by show Pre z.c.lim e y.x.o DA.1 DA.2.1 (s2 + p.n) R.h _; rw [HO.out.1]; exact HNX.out), (by
            show keepT z.c.ms z.c.lim e y.x.o DA.1 DA.2.1 (s2 + p.n) R.h _ = K
            rw [HO.out.1, ← HFIN.out, keepT_go _ (by rw [← HRR.out]; exact HST.out.1) (by rw [← HRR.out, ← HDA.out]; exact HE.out), ← HRR.out, ← HDA.out, HSO.out.1.len]),
          (by rw [HL.out.1, HSO.out.1.len]; have := HKL.out.num; omega), (by show y.x.o.few _; rw [HO.out.1, HL.out.1]; exact (HST.out.2.2.2.2.1 _ HKL.out.few).mono (by omega)), HTD.out.1, HTD.out.2,
          (by rw [HF.out.2.1]; have := HST.out.2.2.2.2.2.1 _ _ HKL.out.sm; rw [← HDA.out] at this; exact Sm.le_ this (by omega))⟩
         clear hb4 k4 k4' hs4 e1 hn2 HS5 HS6 hq0 hq1 c2 f2
         have hnb : n ≤ 1000 := HN1.out
         go_wp2
         go_roundw
         case rel => exact ⟨k + 1, by omega, by go_num, ⟨y.x, W3, c3⟩, DA.1, DA.2.1, s2 + p.n, R.h, HNEW.out⟩
         case measure => simp [intOf]; omega
     · rw [← HDA.out] at he
       rw [he]
       have hG : goOnK t e K = ⟨R.o, DA.1, t, DA.2.1, s2, h2, 8⟩ := by
        have hKe : K = ⟨R.o, DA.1, DA.2.1, s2, h2, 8⟩ := by
         rw [← HFIN.out, keepT_stop _ (by rw [← HRR.out]; exact HST.out.1) (by rw [← HRR.out, ← HDA.out, he]; decide), ← HRR.out, ← HDA.out, he]
        rw [goOnK_bad t e K (by rw [hKe]; exact (by decide : (8 : Int) ≠ 0)), hKe]
       have HG := Lib.hid hG
       clear he hG
       go_wp2
       go_ret
       rw [HG.out]
       refine ⟨rfl, ⟨y.x, W3, c3⟩, HKA.out.b, HKA.out.sub, HKA.out.k, HKA.out.lg, HKA.out.tq, HKA.out.ar, HO.out.1, (by show y.x.cl ≤ _; have h1 := HTD.out.1; have h2 := HL.out.2; omega), ?_⟩
       rw [flat_pre ls (k + 1)]
       exact HTD.out.2.pre _
  · obtain rfl : k = n := by omega
    have hdn : ls.drop k = [] := List.drop_of_length_le (by rw [HN.out.2.2]; exact Nat.le_refl _)
    have htn : ls.take k = ls := List.take_of_length_le (by rw [HN.out.2.2]; exact Nat.le_refl _)
    have hfin := hkl.fin
    rw [hdn, keepT_nil] at hfin
    have hsm := hkl.sm
    have hcl := hkl.cl
    have honc := hkl.onc
    rw [htn] at hsm hcl honc
    have hbk := HBD.out
    have hfs := sync_far hsm (by omega)
    have HSY := Lib.hid (Disk.sync_any D2 z.g z.N z.S v2.W v2.cW wr hkl.b.cd hfs.1 hfs.2.1 hfs.2.2.1 hfs.2.2.2)
    have hKe : K = ⟨v2.x.o, D2, A2, s2, h2, 0⟩ := hfin.symm
    have HCO := Lib.hid (And.intro hcl (And.intro honc hsm))
    have HLG := Lib.hid hkl.lg
    have c1 : wr.cell? ⟨l, 1, none⟩ = some (.pointer (some ⟨z.g, 0, none⟩)) := by rw [hkl.lg.cell]; exact HLC.out.2.1
    have hno : ∀ j, (j = l ∨ j = q ∨ j = a) → ¬ own z v2 j := fun j e => (hkl.b.be j (.inr e)).2.2
    have HNO := Lib.hid hno
    have hkk : Kp (fun j => own z v j ∨ j = q ∨ j = a) wb wr := hkl.k
    have HSB := Lib.hid hkl.sub
    have HKK := Lib.hid hkk
    have H32 := Lib.hid hkl.pre.h32
    have HTQ := Lib.hid hkl.tq
    have HAR := Lib.hid hkl.ar
    have HBB := Lib.hid hkl.b
    have HOK2 := Lib.hid hkl.pre.ok
    subst hKe
    clear hdn htn hfin hsm hcl honc hbk hfs hno hkk hkl HKL
    go_wp2_with fail
    refine HSY.out.mono ?_
    rintro r w2 ⟨rfl, hz⟩
    obtain ⟨W3, c3, hp⟩ := HBB.out.disk hz
    have HP3 := Lib.hid hp
    have HLG3 := Lib.hid (HLG.out.keep hp.k (HNO.out l (.inl rfl)))
    have HTQ3 := Lib.hid (HTQ.out.keep hp.k (HNO.out q (.inr (.inl rfl))))
    have HAR3 := Lib.hid (areaP.keep HAR.out hp.k (HNO.out a (.inr (.inr rfl))))
    have HSUB3 : Hid (∀ j, own z ⟨v2.x, W3, c3⟩ j → own z v j ∨ wb.heap.size ≤ j) := Lib.hid (fun j e => (hp.sub j e).elim (HSB.out j) (fun e => .inr (Nat.le_trans HKK.out.size e)))
    have HKP3 := Lib.hid (HKK.out.trans hp.k (fun j e => (HSB.out j e).imp .inl id))
    obtain ⟨DS, hDS⟩ : ∃ x, x = sync E8 D2 := ⟨_, rfl⟩
    have HDS := Lib.hid hDS
    have HSM3 := Lib.hid (HCO.out.2.2.sync HOK2.out)
    rw [← hDS] at HP3 HSM3 ⊢
    clear hz hp c1 hDS HSY
    by_cases he : DS.2 = 0
    · have heb : (DS.2 != 0) = false := by simp [he]
      have hbk := HBD.out
      have hfs := sync_far HSM3.out (by omega)
      have HNX := Lib.hid (fun w' (kw : Kp nob w2 w') => Meter.next_any t DS.1 e h2 z.m z.g z.N z.S W3 c3 w' (HP3.out.b.me.keep0 kw) (HP3.out.b.cd.keep0 kw) H32.out HP3.out.b.dm hfs.1 hfs.2.1 hfs.2.2.1 hfs.2.2.2)
      obtain ⟨NX, hNX⟩ : ∃ x, x = nxt t DS.1 e h2 := ⟨_, rfl⟩
      rw [← hNX] at HNX
      have HG : Hid (goOnK t e ⟨v2.x.o, D2, A2, s2, h2, 0⟩ = ⟨v2.x.o, NX.2.1, NX.1, A2, s2, h2, NX.2.2⟩) := Lib.hid (by rw [goOnK_yes t e _ rfl (by show (sync E8 D2).2 = 0; rw [← HDS.out]; exact he), hNX, HDS.out])
      have HNO3 := Lib.hid (show ¬ own z ⟨v2.x, W3, c3⟩ l ∧ ¬ own z ⟨v2.x, W3, c3⟩ q ∧ ¬ own z ⟨v2.x, W3, c3⟩ a from ⟨(HP3.out.b.be l (.inr (.inl rfl))).2.2, (HP3.out.b.be q (.inr (.inr (.inl rfl)))).2.2, (HP3.out.b.be a (.inr (.inr (.inr rfl)))).2.2⟩)
      have HE := Lib.hid he
      clear he hbk hfs hNX
      go_wp2
      refine reg_begin (fun w' => Kp (own z ⟨v2.x, W3, c3⟩) w2 w') (by kernel_rfl) ((Kp.refl _ w2).drew) (fun HS7 => ?_)
      refine reg_tk (v := .pointer (some ⟨l, 0, none⟩)) 0 77 rfl rfl (by kernel_rfl) (by rfl) HS7 (fun w' hw => by go_simp) ?_; simp only [Act.put, zp1, zp2, zp3]
      refine reg_tk (v := .pointer (some ⟨l, 0, none⟩)) 1 78 rfl rfl (by kernel_rfl) (by rfl) HS7 (fun w' hw => by go_simp) ?_; simp only [Act.put, zp1, zp2, zp3]
      refine reg_tk (v := .pointer (some ⟨l, 2, none⟩)) 2 79 rfl rfl (by kernel_rfl) (by rfl) HS7 (fun w' hw => by go_simp) ?_; simp only [Act.put, zp1, zp2, zp3]
      refine reg_tk (v := .pointer (some ⟨z.m, 0, none⟩)) 3 80 rfl rfl (by kernel_rfl) (by rfl) HS7 (fun w' hw => by have c := (HLG3.out.keep hw HNO3.out.1).cell 2; rw [HLC.out.2.2] at c; go_simp) ?_; simp only [Act.put, zp1, zp2, zp3]
      refine reg_tk (v := .pointer (some ⟨q, 0, none⟩)) 4 81 rfl rfl (by kernel_rfl) (by rfl) HS7 (fun w' hw => by go_simp) ?_; simp only [Act.put, zp1, zp2, zp3]
      refine reg_tk (v := .pointer (some ⟨q, 0, none⟩)) 5 82 rfl rfl (by kernel_rfl) (by rfl) HS7 (fun w' hw => by go_simp) ?_; simp only [Act.put, zp1, zp2, zp3]
      refine reg_tk (v := .pointer (some ⟨q, 1, none⟩)) 6 83 rfl rfl (by kernel_rfl) (by rfl) HS7 (fun w' hw => by go_simp) ?_; simp only [Act.put, zp1, zp2, zp3]
      refine reg_tk (v := .int .i64 e) 7 84 rfl rfl (by kernel_rfl) (by rfl) HS7 (fun w' hw => by have c := (HTQ3.out.keep hw HNO3.out.2.1).cell 1; rw [tcells_1] at c; go_simp) ?_; simp only [Act.put, zp1, zp2, zp3]
      refine reg_tk (v := .pointer (some ⟨q, 0, none⟩)) 8 85 rfl rfl (by kernel_rfl) (by rfl) HS7 (fun w' hw => by go_simp) ?_; simp only [Act.put, zp1, zp2, zp3]
      refine reg_tk (v := .pointer (some ⟨q, 0, none⟩)) 9 86 rfl rfl (by kernel_rfl) (by rfl) HS7 (fun w' hw => by go_simp) ?_; simp only [Act.put, zp1, zp2, zp3]
      refine reg_tk (v := .pointer (some ⟨q, 3, none⟩)) 10 87 rfl rfl (by kernel_rfl) (by rfl) HS7 (fun w' hw => by go_simp) ?_; simp only [Act.put, zp1, zp2, zp3]
      refine reg_load 11 (some 88) 47 (.tmp 87) rfl rfl rfl (by kernel_rfl) (by kernel_rfl) (by kernel_rfl) (by rfl) HS7 q 3 rfl (bvs h2) _ (fun w' hw => (HTQ3.out.keep hw HNO3.out.2.1).part 3 (bvs h2) (tcells_h a e s2 h2)) arr_under rfl (arr_size h2 H32.out) ?_; simp only [Act.put, zp1, zp2, zp3]
      refine reg_call 12 (some 89) rfl rfl (by kernel_rfl) (by rfl) _ _ (exec_func 82 _ _ [.pointer (some ⟨z.m, 0, none⟩), .int .i64 e, .agg (bvs h2).toArray] rfl (by kernel_rfl) rfl) ?_
      refine (HNX.out _ ((Kp.refl nob w2).drew)).mono ?_
      rintro r w5 ⟨rfl, hmz⟩
      obtain ⟨W4, c4, hp4⟩ := (HP3.out.b.keep0 ((Kp.refl nob w2).drew)).meter hmz
      have hk4 : Kp (own z ⟨v2.x, W3, c3⟩) w2 w5 := ((Kp.refl _ w2).drew).trans hp4.k (fun i e => .inl e)
      refine ⟨_, rfl, hk4, fun _ => ?_⟩
      simp only [Act.put, zp1, zp2, zp3]
      refine reg_tk (v := .int .i64 NX.2.2) 13 6 rfl rfl (by kernel_rfl) (by rfl) hk4 (fun w' hw => by go_simp) ?_; simp only [Act.put, zp1, zp2, zp3]
      refine reg_end (by kernel_rfl) ?_
      have HP4 := Lib.hid hp4
      have HK4 := Lib.hid hk4
      clear hmz hp4 hk4 HS7
      go_wp2
      go_ret
      rw [HG.out]
      refine ⟨rfl, ⟨v2.x, W4, c4⟩, HP4.out.b, fun j e => (HP4.out.sub j e).elim (HSUB3.out j) (fun e => .inr (Nat.le_trans HKP3.out.size e)), HKP3.out.trans HK4.out (fun j e => (HSUB3.out j e).imp .inl id), HLG3.out.keep HK4.out HNO3.out.1, HTQ3.out.keep HK4.out HNO3.out.2.1, areaP.keep HAR3.out HK4.out HNO3.out.2.2, rfl, HCO.out.1, HCO.out.2.1⟩
    · have heb : (DS.2 != 0) = true := by simp [he]
      have HG : Hid (goOnK t e ⟨v2.x.o, D2, A2, s2, h2, 0⟩ = ⟨v2.x.o, DS.1, t, A2, s2, h2, DS.2⟩) := Lib.hid (by rw [goOnK_sync t e _ rfl (by show (sync E8 D2).2 ≠ 0; rw [← HDS.out]; exact he)]; show Gr.mk v2.x.o (sync E8 D2).1 t A2 s2 h2 (sync E8 D2).2 = _; rw [← HDS.out])
      have HE := Lib.hid he
      clear he
      go_wp2
      go_ret
      rw [HG.out]
      exact ⟨rfl, ⟨v2.x, W3, c3⟩, HP3.out.b, HSUB3.out, HKP3.out, HLG3.out, HTQ3.out, HAR3.out, rfl, HCO.out.1, HCO.out.2.1⟩
end Com
namespace Com
open Go Go.RowKit Kit
open Rec (Rec good ftot fsec split Rrow Sr SrOk recB good_bounds)
open Ideal (Ts Thing hashT Ans)
open Vault (Vc Vt Vx Vq nonce)
open Disk
open Meter (Mt Mk Mb Mz nxt)
open Seg (pk)
theorem tail_under : Tryz.prog.underlying 104 = some (.struct (Tryz.prog.fieldsOf 104)) := by kernel_rfl
theorem tail_size (a : Nat) (e : Int) (s : Nat) (h : List UInt8) (hl : h.length = 32) : (Tryz.prog.info? 104).map (·.size) = some (tcells a e s h).length := by rw [tcells_length a e s h hl]; kernel_rfl
theorem lcells_tail (z : Zf) (a0 a : Nat) (L : Lo) (A : Ar) (e : Int) (s : Nat) (h : List UInt8) (h0 : L.h.length = 32) (hl : h.length = 32) : splice (lcells z a0 L) 3 (tcells a e s h) = lcells z a ⟨A, e, s, h, L.turned, L.lost⟩ := by
 unfold splice lcells
 rw [tcells_length a e s h hl]
 simp only [List.take_succ_cons, List.take_zero, List.cons_append, List.nil_append]
 rw [show 3 + 35 = 35 + 1 + 1 + 1 by omega]
 simp only [List.drop_succ_cons]
 rw [List.drop_left' (tcells_length a0 L.e L.s L.h h0)]
theorem lcells_turned (z : Zf) (a : Nat) (L : Lo) (b : Bool) (h0 : L.h.length = 32) : (lcells z a L).set 38 (.bool b) = lcells z a { L with turned := b } := by
 unfold lcells
 rw [show 38 = 35 + 1 + 1 + 1 by omega]
 simp only [List.set_cons_succ]
 rw [List.set_append_right _ _ (by rw [tcells_length _ _ _ _ h0]; exact Nat.le_refl _), tcells_length _ _ _ _ h0]
 rfl
theorem lcells_lost (z : Zf) (a : Nat) (L : Lo) (b : Bool) (h0 : L.h.length = 32) : (lcells z a L).set 39 (.bool b) = lcells z a { L with lost := b } := by
 unfold lcells
 rw [show 39 = 36 + 1 + 1 + 1 by omega]
 simp only [List.set_cons_succ]
 rw [List.set_append_right _ _ (by rw [tcells_length _ _ _ _ h0]; omega), tcells_length _ _ _ _ h0]
 rfl
def nextL (L : Lo) (e : Int) (G : Gr) : Lo := if G.e = 0 then ⟨G.A, e, G.s, G.h, true, L.lost⟩ else if G.e = 8 then { L with lost := true } else L
theorem ofG_eq (L : Lo) (e : Int) (G : Gr) : ofG L e G = ⟨G.o, G.D, G.t, nextL L e G, G.e⟩ := rfl
structure GP (w wb : World) (z : Zf) (v : Zv) (B : Nat → Prop) (l a a0 : Nat) (L : Lo) (e : Int) (s : Nat) (ls : List (List Rec)) (G : Gr) (w2 : World) (v2 : Zv) : Prop where
 b : Pb w w2 z v2 G.D G.t (fun j => B j ∨ j = l ∨ j = a)
 sub : ∀ j, own z v2 j → own z v j ∨ wb.heap.size ≤ j
 k : Kp (fun j => own z v j ∨ j = l ∨ j = a) wb w2
 lg : LgAt w2 z l (if G.e = 0 then a else a0) (nextL L e G)
 ar : IsA w2 a z.g G.A
 o : v2.x.o = G.o
 cl : v2.x.cl ≤ v.x.cl + ls.flatten.length
 onc : Onc e s ls.flatten v.x.sl v.x.cl v2.x.sl v2.x.cl
theorem goOn_c {w wb : World} {z : Zf} {v : Zv} {D : Dk} {t : Mt} {B : Nat → Prop} (l a a0 : Nat) (L : Lo) (e : Int) (s : Nat) (h : List UInt8) (A : Ar) (X : Option Addr) (n cx : Nat) (ps : List Sr) (f0 k0 n0 : Nat)
    (hb : Pb w wb z v D t (fun j => B j ∨ j = l ∨ j = a)) (hlg : LgAt wb z l a0 L) (har : IsA wb a z.g A) (hla : l ≠ a) (hn : ps.length = n) (hrow : Row wb X (ps.map Sr.v)) (hX : ∀ j, ab X = some j → j < wb.heap.size ∧ ¬ (own z v j ∨ j = a)) (hok : ∀ p ∈ ps, SrOk wb p ∧ ∀ j, ab p.A = some j → ¬ (own z v j ∨ j = a))
    (hP : Pre z.c.lim e v.x.o D A s h (ps.map (·.rs))) (hf : v.x.o.few f0) (hbd : (ps.map (·.rs)).flatten.length ≤ 1000 ∧ f0 + 6000 ≤ 80000 ∧ v.x.cl + 1000 ≤ 1000000 ∧ k0 + secsum (ps.map (·.rs)) + 2 ≤ 90000 ∧ z.c.lim ≤ 9223372036854775807) (hsm : Sm D k0 n0) (hn1 : n ≤ 1000) (G : Gr) (hG : G = goOnK t e (keepT z.c.ms z.c.lim e v.x.o D A s h (ps.map (·.rs)))) (hG32 : G.h.length = 32) :
    Calls Tryz.prog 48 #[.pointer (some ⟨l, 0, none⟩), .agg (tcells a e s h).toArray, .slice X n cx] wb fun r w' => r = .returned (.int .i64 G.e) ∧ ∃ v2, GP w wb z v B l a a0 L e s (ps.map (·.rs)) G w' v2 := by
 obtain ⟨ls, hls⟩ : ∃ ls, ls = ps.map (·.rs) := ⟨_, rfl⟩
 have h32 := hP.h32
 obtain ⟨q, hq⟩ : ∃ q, q = wb.heap.size := ⟨_, rfl⟩
 have k1 : Kp nob wb (wb.alloc (.cells (tcells a e s h).toArray 104)) := (Kp.refl nob wb).alloc _
 obtain ⟨w1, hw1⟩ : ∃ w1, w1 = wb.alloc (.cells (tcells a e s h).toArray 104) := ⟨_, rfl⟩
 have hs1 : w1.heap.size = q + 1 := by rw [hw1, hq]; simp
 have hB1 : Blk w1 q 104 (tcells a e s h) := by rw [hw1, hq]; exact Blk.new wb _ _
 rw [← hw1] at k1
 have hqo : ¬ own z v q := hb.far (by omega)
 have hb1 : Pb w w1 z v D t (fun j => B j ∨ j = l ∨ j = q ∨ j = a) := ((hb.keep0 k1).add (j := q) (by have := hb.kp.size; omega) (by omega) hqo).less (fun j e => by
  rcases e with e | e | e | e
  · exact .inl (.inl e)
  · exact .inl (.inr (.inl e))
  · exact .inr e
  · exact .inl (.inr (.inr e)))
 have hll : l < wb.heap.size := hlg.b.lt
 have hal : a < wb.heap.size := Blk.lt har
 have HK := Lib.hid (keep_c (B := B) l a q (lcells z a0 L) e s h A X n cx ps f0 k0 n0 hb1 (hlg.b.keep k1 (fun e => e)) ⟨rfl, rfl, rfl⟩ hB1 (areaP.keep har k1 (fun e => e)) ⟨by omega, hla, by omega⟩ hn (hrow.keep0 k1)
  (fun j e => ⟨by have := (hX j e).1; omega, fun e2 => by
    rcases e2 with e2 | e2 | e2
    · exact (hX j e).2 (.inl e2)
    · have := (hX j e).1; omega
    · exact (hX j e).2 (.inr e2)⟩)
  (fun p hp => ⟨(hok p hp).1.keep k1 (fun i e e2 => e2), fun j e => ⟨by have := (hok p hp).1.lt j e; omega, fun e2 => by
    rcases e2 with e2 | e2 | e2
    · exact (hok p hp).2 j e (.inl e2)
    · have := (hok p hp).1.lt j e; omega
    · exact (hok p hp).2 j e (.inr e2)⟩⟩) hP hf hbd hsm hn1)
 rw [← hG] at HK
 rw [← hls] at HK ⊢
 have HG := Lib.hid (And.intro hlg.h32 (And.intro hG32 hla))
 have HLA := Lib.hid (And.intro hll hal)
 have HQ := Lib.hid (And.intro hq (And.intro hs1 k1))
 have HSP := Lib.hid (fun (b : Nat) => lcells_tail z a0 b L G.A e G.s G.h hlg.h32 hG32)
 clear hb hlg har hla hn hrow hX hok hP hf hbd hsm hn1 hG hG32 hls h32 hs1 hB1 hqo hb1 hll hal k1
 go_enter Tryz.func48, Tryz.ntmps48
 go_wp2_with fail
 rw [← hw1, ← hq]
 clear hw1 hq
 refine HK.out.mono ?_
 rintro r w2 ⟨rfl, v2, hkp⟩
 have HKP := Lib.hid hkp
 clear hkp HK
 have HBB : Hid (Pb w w2 z v2 G.D G.t (fun j => B j ∨ j = l ∨ j = a)) := Lib.hid (HKP.out.b.less (fun j e => by
  rcases e with e | e | e
  · exact .inl e
  · exact .inr (.inl e)
  · exact .inr (.inr (.inr e))))
 have HSUB : Hid (∀ j, own z v2 j → own z v j ∨ wb.heap.size ≤ j) := Lib.hid (fun j e => (HKP.out.sub j e).imp id (fun e => by have h1 := HQ.out.1; have h2 := HQ.out.2.1; omega))
 have HKK : Hid (Kp (fun j => own z v j ∨ j = l ∨ j = a) wb w2) := Lib.hid ((HQ.out.2.2.nob _).trans HKP.out.k (fun j e => by
  rcases e with e | e | e
  · exact .inl (.inl e)
  · exact .inr (by rw [e, HQ.out.1]; exact Nat.le_refl _)
  · exact .inl (.inr (.inr e))))
 have HAF := Lib.hid (fun (w' : World) (k : Kp (oneB l) w2 w') => areaP.keep HKP.out.ar k (fun e => HG.out.2.2 e.symm))
 by_cases h0 : G.e = 0
 · have HN : Hid (nextL L e G = ⟨G.A, e, G.s, G.h, true, L.lost⟩) := Lib.hid (by unfold nextL; rw [if_pos h0])
   have H0 := Lib.hid h0
   rw [h0]
   have hl3 : 3 + (tcells a e G.s G.h).length ≤ (lcells z a0 L).length := by rw [tcells_length _ _ _ _ HG.out.2.1, lcells_length _ _ _ HG.out.1]; omega
   have HL3 := Lib.hid hl3
   clear h0 hl3
   go_wp2_with (first
    | (refine wpList_load_blk rfl 104 (.tmp 4) rfl _ _ _ HKP.out.tq rfl _ tail_under rfl (tail_size _ _ _ _ HG.out.2.1) ?_)
    | (refine wpList_store_in rfl 104 (.tmp 18) (.tmp 16) rfl l 3 _ (lcells z a0 L) (tcells a e G.s G.h) HKP.out.lg rfl rfl HL3.out (tail_size _ _ _ _ HG.out.2.1) (tcells_one _ _ _ _) ?_; intro w3 hB3 k3 z3; rw [HSP.out a] at hB3; have HB3 := Lib.hid hB3; have HK3 := Lib.hid k3; have c38 := (LgAt.cells (L := ⟨G.A, e, G.s, G.h, L.turned, L.lost⟩) ⟨hB3, HG.out.2.1⟩).2.2.2.2.2.2.1; have f38 := hB3.frozen 38; clear hB3 k3 z3)
    | fail)
   go_ret
   have hb4 := HB3.out.set_ 38 (.bool true)
   rw [lcells_turned z a _ true HG.out.2.1] at hb4
   have k4 : Kp (oneB l) w2 (w3.setCell ⟨l, 38, none⟩ (.bool true)) := HK3.out.setCell (p := ⟨l, 38, none⟩) (.inl rfl) _
   exact ⟨by rw [H0.out]; rfl, v2, HBB.out.side k4 (fun j e => .inl (.inr (.inl e))), HSUB.out, HKK.out.trans k4 (fun j e => .inl (.inr (.inl e))), (by rw [if_pos H0.out, HN.out]; exact ⟨hb4, HG.out.2.1⟩), HAF.out _ k4, HKP.out.o, HKP.out.cl, HKP.out.onc⟩
 · by_cases h8 : G.e = 8
   · have HN : Hid (nextL L e G = { L with lost := true }) := Lib.hid (by unfold nextL; rw [if_neg h0, if_pos h8])
     have H0 := Lib.hid h0
     have H8 := Lib.hid h8
     rw [h8]
     have c39 := (LgAt.cells (L := L) (a := a0) ⟨HKP.out.lg, HG.out.1⟩).2.2.2.2.2.2.2
     have f39 := HKP.out.lg.frozen 39
     clear h0 h8
     go_wp2
     go_ret
     have hb4 := HKP.out.lg.set_ 39 (.bool true)
     rw [lcells_lost z a0 L true HG.out.1] at hb4
     have k4 : Kp (oneB l) w2 (w2.setCell ⟨l, 39, none⟩ (.bool true)) := (Kp.refl (oneB l) w2).setCell (p := ⟨l, 39, none⟩) (.inl rfl) _
     exact ⟨by rw [H8.out]; rfl, v2, HBB.out.side k4 (fun j e => .inl (.inr (.inl e))), HSUB.out, HKK.out.trans k4 (fun j e => .inl (.inr (.inl e))), (by rw [if_neg H0.out, HN.out]; exact ⟨hb4, HG.out.1⟩), HAF.out _ k4, HKP.out.o, HKP.out.cl, HKP.out.onc⟩
   · have HN : Hid (nextL L e G = L) := Lib.hid (by unfold nextL; rw [if_neg h0, if_neg h8])
     have H0 := Lib.hid h0
     have b0 : (G.e == 0) = false := by simp [h0]
     have b8 : (G.e == 8) = false := by simp [h8]
     clear h0 h8
     go_wp2
     go_ret
     exact ⟨rfl, v2, HBB.out, HSUB.out, HKK.out, (by rw [if_neg H0.out, HN.out]; exact ⟨HKP.out.lg, HG.out.1⟩), HKP.out.ar, HKP.out.o, HKP.out.cl, HKP.out.onc⟩
end Com
end Go.Proofs.YtigdlnfgdjfdoaaGreat
