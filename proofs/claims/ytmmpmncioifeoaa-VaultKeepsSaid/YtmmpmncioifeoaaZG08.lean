/- Regions driven by hand: a copy into a block known whole; look-ups and stores of maps. No program is named here. · Package vault: the nonce of an epoch and a number. · Package vault: vaults and places that are built; places as a map's keys; a new vault. -/
import Derived.Test.YtmmpmncioifeoaaZG07
import Derived.Test.YtmmpmncioifeoaaZG06
import Derived.Test.YtmmpmncioifeoaaZG02
import Derived.Test.YtmmpmncioifeoaaZG03
import Derived.Test.YtmmpmncioifeoaaZG04
import Derived.Stop.BytesEq
import Derived.Laws.StructEq
namespace Go.Proofs.Ytmmpmncioifeoaa.Kit
set_option linter.unusedVariables false
set_option linter.unusedSimpArgs false
open Go Go.RowKit
section
variable {P : Program} {md : Region.Mode} {ops : Array Oper} {Q : Exit → Act → World → Prop} {S : World → Prop}
/-- 'copy' into a block known whole, it alone is ready. -/
theorem reg_copy {oi : Oper} {fuel : Nat} {listed : Array Bool} {a : Act} {w : World} (i : Nat) (dd : Option Tmp) (d s : Operand) (dT sT : TypeId) (hi : ops[i]? = some oi) (hdd : oi.dst = dd) (ho : oi.op = .call { callee := .builtin .copy, args := #[d, s], argTypes := #[dT, sT] }) (hr : Region.ready md ops listed = [i])
    (hgd : oi.guard = none) (elem : TypeId) (hu : P.underlying dT = some (.slice elem)) (hsz : (P.info? elem).map (·.size) = some 1)
    (g off : Nat) (dp sp : Option Addr) (dLen dCap sLen sCap : Nat) (hd : a.eval d = .slice dp dLen dCap) (hs : a.eval s = .slice sp sLen sCap)
    (cur : List Value) (t : TypeId) (hg : Blk w g t cur) (cs : List Value) (hn : cs.length = Nat.min sLen dLen) (hdp : 0 < cs.length → dp = some ⟨g, off, none⟩)
    (hrow : Row w sp cs) (hfit : off + cs.length ≤ cur.length) (h1 : ∀ v ∈ cs, v.oneCell' = true)
    (h : ∀ w', Blk w' g t (splice cur off cs) → Kp (oneB g) w w' → w'.heap.size = w.heap.size → S w' ∧ (S w' → wpAnyH P md ops (NoPanic Q) S fuel (listed.setIfInBounds i true) (a.put dd (goInt cs.length)) w')) : wpAnyH P md ops (NoPanic Q) S (fuel + 1) listed a w := by
  subst hdd
  refine wpAnyH_ready hr (by simp) (AllReadyH.cons hi (fun K' hK => ?_) AllReadyH.nil)
  exact step_copy_blk hgd d s dT sT ho elem hu hsz g off dp sp dLen dCap sLen sCap hd hs cur t hg cs hn hdp hrow hfit h1 (fun w' b k z => hK.out _ _ (h w' b k z).1 (h w' b k z).2)
/-- An entry of a map is looked up. -/
theorem exec_look {a : Act} {o : Oper} {w w' : World} (m x : Operand) (t : TypeId) (ok : Bool) (ho : o.op = .lookup t m x ok) (u v r : Value) (hm : a.eval m = u) (hx : a.eval x = v) (h : (Instr.lookup t u v ok).run P w = .ok r w') : (execOp a.eval o).run P w = .ok (.value r) w' := by
  subst hm; subst hx
  simp [execOp, ho, h, Result.andThen]
/-- .. is stored. -/
theorem reg_update {oi : Oper} {fuel : Nat} {listed : Array Bool} {a : Act} {w w' : World} (i : Nat) (d : Option Tmp) (m x y : Operand) (t : TypeId) (hi : ops[i]? = some oi) (hd : oi.dst = d) (ho : oi.op = .mapUpdate t m x y) (hr : Region.ready md ops listed = [i])
    (hw : Region.wanted oi (yielded ops a.tmps) = true) (u k v : Value) (hm : a.eval m = u) (hx : a.eval x = k) (hy : a.eval y = v) (h : (Instr.mapUpdate t u k v).run P w = .ok () w') (hS : S w')
    (hK : S w' → wpAnyH P md ops (NoPanic Q) S fuel (listed.setIfInBounds i true) (a.put d undef) w') : wpAnyH P md ops (NoPanic Q) S (fuel + 1) listed a w := by
  subst hm; subst hx; subst hy; subst hd
  refine wpAnyH_ready hr (by simp) (AllReadyH.cons hi (fun K' hK' => ?_) AllReadyH.nil)
  rw [if_pos hw]
  unfold Oper.wp
  simp [execOp, ho, h, Result.andThen]
  exact hK'.out _ _ hS hK
end
end Go.Proofs.Ytmmpmncioifeoaa.Kit
namespace Go.Proofs.Ytmmpmncioifeoaa.Vault
set_option linter.unusedVariables false
set_option linter.unusedSimpArgs false
open Go Go.RowKit Kit

theorem arrN : Try.prog.underlying 53 = some (.array 12 5) := by kernel_rfl
theorem u8n_under : Try.prog.underlying 29 = some (.slice 5) := by kernel_rfl
theorem cutH (g : Nat) (w : World) : (Instr.sliceAt 53 (.pointer (some ⟨g, 0, none⟩)) none (some (.int .i64 4)) none).run Try.prog w = .ok (.slice (some ⟨g, 0, none⟩) 4 12) w := by
  have ha : Try.prog.underlying 53 = some (.array (Try.prog.arrayLen 53) (Try.prog.elem 53)) := by kernel_rfl
  have hl : Try.prog.arrayLen 53 = 12 := by kernel_rfl
  have he : Try.prog.elem 53 = 5 := by kernel_rfl
  have hz : (sizeOf 5).run Try.prog w = .ok 1 w := by kernel_rfl
  rw [run_sliceAt_array_h w _ _ ha _ _ (by omega) (by rw [hl]; omega), hl, he, hz]
  simp [Result.andThen, slicedAt, Addr.add]
theorem cutL (g : Nat) (w : World) : (Instr.sliceAt 53 (.pointer (some ⟨g, 0, none⟩)) (some (.int .i64 4)) none none).run Try.prog w = .ok (.slice (some ⟨g, 4, none⟩) 8 8) w := by
  have ha : Try.prog.underlying 53 = some (.array (Try.prog.arrayLen 53) (Try.prog.elem 53)) := by kernel_rfl
  have hl : Try.prog.arrayLen 53 = 12 := by kernel_rfl
  have he : Try.prog.elem 53 = 5 := by kernel_rfl
  have hz : (sizeOf 5).run Try.prog w = .ok 1 w := by kernel_rfl
  rw [run_sliceAt_array_l w _ _ ha _ _ (by omega) (by rw [hl]; omega), hl, he, hz]
  simp [Result.andThen, slicedAt, Addr.add]
def z12 : List UInt8 := List.replicate 12 0
theorem splice_a (a : List UInt8) (ha : a.length = 4) : splice (bvs z12) 0 (bvs a) = bvs (a ++ List.replicate 8 0) := by
  rw [splice, bvs_length, ha, bvs_append]; rfl
theorem splice_b (a b : List UInt8) (ha : a.length = 4) (hb : b.length = 8) : splice (bvs (a ++ List.replicate 8 0)) 4 (bvs b) = bvs (a ++ b) := by
  rw [splice, bvs_append, bvs_append, bvs_length, hb, List.take_append_of_le_length (by rw [bvs_length, ha]; omega), List.take_of_length_le (by rw [bvs_length, ha]; omega), List.drop_eq_nil_of_le (by simp [bvs, ha]), List.append_nil]

/-- The nonce's two blocks and its writer. -/
structure Nw (w : World) (A : Option Addr) (l : List UInt8) (w2 : World) : Prop where
  z : Blk w2 w.heap.size 53 (bvs z12)
  i : IsW w2 (w.heap.size + 1) A l
  f : ∀ k, WF (w.heap.size + 1) A k → w.heap.size < k
  k : Kp nob w w2
theorem Nw.keep {w w2 w3 : World} {A : Option Addr} {l : List UInt8} (h : Nw w A l w2) (k : Kp nob w2 w3) : Nw w A l w3 := ⟨h.z.keep k (fun e => e), h.i.keep k (fun _ _ e => e), h.f, h.k.trans k (fun _ e => e.elim)⟩
theorem z12_zero (w : World) : (zeroValue 53).run Try.prog w = .ok (.agg (bvs z12).toArray) w := by kernel_rfl

set_option maxHeartbeats 2000000 in
set_option maxRecDepth 100000 in
theorem nonceOf_any (e s : Int) (w : World) :
    Calls Try.prog 19 #[.int .i64 e, .int .i64 s] w fun x w' => x = .returned (.agg (bvs (nonce e s)).toArray) ∧ Kp nob w w' := by
  have H0 : Hid (IsW (((w.alloc (.cells (bvs z12).toArray 53)).alloc (.cells #[.slice none 0 0] 65)).alloc (.cells #[.int .i64 e, .int .i64 s] 3)) (w.heap.size + 1) none []) := Lib.hid (by
    have := isW_new (w.alloc (.cells (bvs z12).toArray 53))
    rw [show (w.alloc (.cells (bvs z12).toArray 53)).heap.size = w.heap.size + 1 by simp] at this
    exact this.alloc _)
  have HB0 : Hid (Blk (((w.alloc (.cells (bvs z12).toArray 53)).alloc (.cells #[.slice none 0 0] 65)).alloc (.cells #[.int .i64 e, .int .i64 s] 3)) w.heap.size 53 (bvs z12)) := Lib.hid (((Blk.new' rfl rfl).alloc _).alloc _)
  have HK0 : Hid (Kp nob w (((w.alloc (.cells (bvs z12).toArray 53)).alloc (.cells #[.slice none 0 0] 65)).alloc (.cells #[.int .i64 e, .int .i64 s] 3))) := Lib.hid ((((Kp.refl _ _).alloc _).alloc _).alloc _)
  have HR0 : Hid (Row (((w.alloc (.cells (bvs z12).toArray 53)).alloc (.cells #[.slice none 0 0] 65)).alloc (.cells #[.int .i64 e, .int .i64 s] 3)) (some ⟨w.heap.size + 1 + 1, 0, none⟩) (ivs [e, s])) := Lib.hid (by
    have := row_new ((w.alloc (.cells (bvs z12).toArray 53)).alloc (.cells #[.slice none 0 0] 65)) (ivs [e, s]) 3
    rw [show ((w.alloc (.cells (bvs z12).toArray 53)).alloc (.cells #[.slice none 0 0] 65)).heap.size = w.heap.size + 1 + 1 by simp] at this
    exact this)
  go_enter Try.func19, Try.ntmps19
  go_wp2_with fail
  refine (wNum (w.heap.size + 1) none [] (some ⟨w.heap.size + 1 + 1, 0, none⟩) 2 2 [e, s] _ ?own rfl ?row (fun k hk => ?far) (by omega) (by simp)).mono ?_
  case own => exact H0.out
  case row => exact HR0.out
  case far =>
    simp only [ab, Option.map_some, Option.some.injEq] at hk
    rintro (h | h)
    · omega
    · cases h
  rintro x w2 ⟨rfl, A2, hw2, k2, g2⟩
  have HW2 : Hid (Nw w A2 ([] ++ [e, s].flatMap num8) w2) := Lib.hid ⟨HB0.out.keep k2 (fun h => h.elim (fun h => by omega) (fun h => by cases h)), hw2, fun k hk => by
      rcases hk with rfl | hk
      · omega
      · rcases g2 with g | ⟨j, g, hj⟩
        · rw [g] at hk; cases hk
        · rw [g] at hk; cases hk; simp at hj; omega, HK0.out.since k2 (fun i h => h.elim (fun h => by omega) (fun h => by cases h))⟩
  clear hw2 k2 g2 H0 HB0 HK0 HR0
  rw [show [] ++ [e, s].flatMap num8 = num8 e ++ num8 s by simp] at HW2
  obtain ⟨l, hl⟩ : ∃ l, l = num8 e ++ num8 s := ⟨_, rfl⟩
  rw [← hl] at HW2
  have HL16 := Lib.hid (show l.length = 16 by rw [hl]; simp)
  have HNE := Lib.hid (show l.take 4 ++ l.drop 8 = nonce e s by rw [hl, nonce_eq, List.take_append_of_le_length (by simp), List.drop_left' (by simp)])
  clear hl
  go_wp2
  obtain ⟨g, hg⟩ : ∃ g, g = w2.heap.size := ⟨_, rfl⟩
  have HG := Lib.hid (show w.heap.size + 1 < g ∧ ∀ k, WF (w.heap.size + 1) A2 k → k ≠ g by rw [hg]; exact ⟨HW2.out.i.lt, fun k hk => Nat.ne_of_lt (HW2.out.i.fLt k hk)⟩)
  have HS0 : Hid (Nw w A2 l (w2.alloc (.cells (bvs z12).toArray 53)).drew) := Lib.hid (HW2.out.keep ((Kp.refl nob w2).alloc _).drew)
  have HB0 : Hid (Blk (w2.alloc (.cells (bvs z12).toArray 53)).drew g 53 (bvs z12)) := Lib.hid ((Blk.new' hg rfl : Blk (w2.alloc (.cells (bvs z12).toArray 53)) g _ _).keep (Kp.refl nob _).drew (fun e => e))
  rw [← hg]
  refine reg_begin (fun w3 => Nw w A2 l w3) (by kernel_rfl) HS0.out (fun _ => ?_)
  clear hg HW2
  refine reg_take (v := .slice (some ⟨g, 0, none⟩) 4 12) 0 (some 11) rfl rfl (by kernel_rfl) (by kernel_rfl) (by kernel_rfl) (by rfl) HS0.out (fun w hw => by have hc := cutH g w; go_simp) ?_
  simp only [Act.put, List.setIfInBounds_toArray, List.set_cons_zero, List.set_cons_succ]
  refine reg_call 1 (some 12) rfl rfl (by kernel_rfl) (by rfl) _ _ (exec_func 23 _ _ [.pointer (some ⟨w.heap.size + 1, 0, none⟩)] rfl (by kernel_rfl) rfl) ?_
  refine (wBytes (w.heap.size + 1) A2 l _ HS0.out.i (by rw [HL16.out]; omega)).mono ?_
  rintro x w4 ⟨Z, cZ, rfl, hZ, k4, fZ, _⟩
  have HS1 : Hid (Nw w A2 l w4) := Lib.hid (HS0.out.keep k4)
  have HB1 := Lib.hid (HB0.out.keep k4 (fun e => e))
  have HZ := Lib.hid hZ.row
  clear hZ fZ k4 HB0
  refine ⟨_, rfl, HS1.out, fun _ => ?_⟩
  simp only [Act.put, List.setIfInBounds_toArray, List.set_cons_zero, List.set_cons_succ]
  refine reg_copy 2 (some 13) (.tmp 11) (.tmp 12) 29 29 rfl rfl rfl (by kernel_rfl) rfl 5 u8n_under (by kernel_rfl) g 0 (some ⟨g, 0, none⟩) Z 4 12 l.length cZ rfl rfl (bvs z12) 53 HB1.out (bvs (l.take 4)) (by rw [bvs_length, List.length_take, HL16.out]; rfl) (fun _ => rfl)
    (by have := HZ.out.take 4; rwa [bvs, ← List.map_take, ← bvs] at this) (by rw [bvs_length, List.length_take, HL16.out]; decide) (bvs_one _) ?_
  intro w5 hB5 k5 z5
  rw [splice_a _ (by rw [List.length_take, HL16.out]; rfl)] at hB5
  have HS2 : Hid (Nw w A2 l w5) := Lib.hid ⟨HS1.out.z.keep k5 (fun e => by have := HG.out.1; have e : w.heap.size = g := e; omega), HS1.out.i.keep k5 (fun k hk e => HG.out.2 k hk e), HS1.out.f, HS1.out.k.since k5 (fun i e => by have := HG.out.1; have e : i = g := e; omega)⟩
  have HB2 := Lib.hid hB5
  clear hB5 k5 z5 HB1 HZ HS0
  refine ⟨HS2.out, fun _ => ?_⟩
  simp only [Act.put, List.setIfInBounds_toArray, List.set_cons_zero, List.set_cons_succ]
  refine reg_end (by kernel_rfl) ?_
  go_wp2
  have HS3 : Hid (Nw w A2 l w5.drew) := Lib.hid (HS2.out.keep (Kp.refl nob w5).drew)
  have HB3 := Lib.hid (HB2.out.keep (Kp.refl nob w5).drew (fun e => e))
  refine reg_begin (fun w3 => Nw w A2 l w3) (by kernel_rfl) HS3.out (fun _ => ?_)
  refine reg_take (v := .slice (some ⟨g, 4, none⟩) 8 8) 0 (some 14) rfl rfl (by kernel_rfl) (by kernel_rfl) (by kernel_rfl) (by rfl) HS3.out (fun w hw => by have hc := cutL g w; go_simp) ?_
  simp only [Act.put, List.setIfInBounds_toArray, List.set_cons_zero, List.set_cons_succ]
  refine reg_call 1 (some 15) rfl rfl (by kernel_rfl) (by rfl) _ _ (exec_func 23 _ _ [.pointer (some ⟨w.heap.size + 1, 0, none⟩)] rfl (by kernel_rfl) rfl) ?_
  refine (wBytes (w.heap.size + 1) A2 l _ HS3.out.i (by rw [HL16.out]; omega)).mono ?_
  rintro x w6 ⟨Z, cZ, rfl, hZ, k6, fZ, _⟩
  have HS4 : Hid (Nw w A2 l w6) := Lib.hid (HS3.out.keep k6)
  have HB4 := Lib.hid (HB3.out.keep k6 (fun e => e))
  have hcap := hZ.cap
  have HZ := Lib.hid (hZ.row.cut (c := cZ) (k := 8) (by rw [bvs_length]; exact hcap.1))
  rw [HL16.out]
  clear hZ fZ k6 HB3 HS3 HS2 HB2
  refine ⟨_, rfl, HS4.out, fun _ => ?_⟩
  simp only [Act.put, List.setIfInBounds_toArray, List.set_cons_zero, List.set_cons_succ]
  refine reg_take (v := .slice (cutA Z cZ 8) 8 (cZ - 8)) 2 (some 16) rfl rfl (by kernel_rfl) (by kernel_rfl) (by kernel_rfl) (by rfl) HS4.out (fun w hw => by have hc := run_slice_from 29 5 u8n_under (fun _ => by kernel_rfl) Z 16 cZ 8 (by omega) w; go_simp; rfl) ?_
  simp only [Act.put, List.setIfInBounds_toArray, List.set_cons_zero, List.set_cons_succ]
  refine reg_copy 3 (some 17) (.tmp 14) (.tmp 16) 29 29 rfl rfl rfl (by kernel_rfl) rfl 5 u8n_under (by kernel_rfl) g 4 (some ⟨g, 4, none⟩) (cutA Z cZ 8) 8 8 8 (cZ - 8) rfl rfl (bvs (l.take 4 ++ List.replicate 8 0)) 53 HB4.out (bvs (l.drop 8)) (by rw [bvs_length, List.length_drop, HL16.out]; rfl) (fun _ => rfl)
    (by have := HZ.out; rwa [bvs, ← List.map_drop, ← bvs] at this) (by rw [bvs_length, bvs_length, List.length_append, List.length_drop, List.length_take, HL16.out]; decide) (bvs_one _) ?_
  intro w7 hB7 k7 z7
  rw [splice_b _ _ (by rw [List.length_take, HL16.out]; rfl) (by rw [List.length_drop, HL16.out]), HNE.out] at hB7
  have HS5 : Hid (Nw w A2 l w7) := Lib.hid ⟨HS4.out.z.keep k7 (fun e => by have := HG.out.1; have e : w.heap.size = g := e; omega), HS4.out.i.keep k7 (fun k hk e => HG.out.2 k hk e), HS4.out.f, HS4.out.k.since k7 (fun i e => by have := HG.out.1; have e : i = g := e; omega)⟩
  have HB5 := Lib.hid hB7
  have HNL := Lib.hid (show (bvs (nonce e s)).length = 12 by rw [bvs_length, nonce_length])
  have HZL := Lib.hid (show (bvs z12).length = 12 from rfl)
  clear hB7 k7 z7 HB4 HZ HS4
  refine ⟨HS5.out, fun _ => ?_⟩
  simp only [Act.put, List.setIfInBounds_toArray, List.set_cons_zero, List.set_cons_succ]
  refine reg_end (by kernel_rfl) ?_
  have HZ0 := Lib.hid HS5.out.z
  go_wp2_with (first
    | (refine wpList_load_blk rfl 53 (.tmp 6) rfl _ _ _ HB5.out rfl _ arrN rfl (by rw [HNL.out]; kernel_rfl) ?_)
    | (refine wpList_store_blk rfl 53 (.tmp 4) (.tmp 18) rfl _ _ _ (bvs (nonce e s)) HZ0.out rfl rfl (by rw [HZL.out, HNL.out]) (by rw [HNL.out]; kernel_rfl) (bvs_one _) ?_; intro w8 hB8 k8 z8))
  have hsz : (Try.prog.info? 53).map (·.size) = some (bvs (nonce e s)).toArray.size := by rw [List.size_toArray, HNL.out]; kernel_rfl
  exact bodyPost_ret (results_cell_row rfl _ _ w.heap.size _ _ _ _ rfl hB8 arrN rfl hsz) rfl ⟨rfl, HS5.out.k.since k8 (fun i e => by cases e; omega)⟩
end Go.Proofs.Ytmmpmncioifeoaa.Vault
namespace Go.Proofs.Ytmmpmncioifeoaa.Vault
set_option linter.unusedVariables false
set_option linter.unusedSimpArgs false
open Go Go.RowKit Kit

theorem list_fn (n : Nat) (l : List UInt8) (h : l.length = n) : ∃ f : Fin n → UInt8, l = List.ofFn f := by
  refine ⟨fun i => l[i.1]'(by rw [h]; exact i.2), ?_⟩
  apply List.ext_getElem
  · simp [h]
  · intro i h1 h2; simp
set_option maxRecDepth 100000 in
theorem build_vault0 (f : Fin 32 → UInt8) (T : TypeId) (u : Value) (lim : Int) (m : Nat) (w : World) : (Instr.build 62 #[(0, .iface T u), (1, .agg (bvs (List.ofFn f)).toArray), (2, .int .i64 lim), (3, .map (some m))]).run Try.prog w = .ok (.agg (.iface T u :: (bvs (List.ofFn f) ++ [.int .i64 lim, .map (some m), .int .i64 0])).toArray) w := by kernel_rfl
theorem build_vault (ms : List UInt8) (h : ms.length = 32) (T : TypeId) (u : Value) (lim m : Nat) (w : World) : (Instr.build 62 #[(0, .iface T u), (1, .agg (bvs ms).toArray), (2, .int .i64 (lim : Nat)), (3, .map (some m))]).run Try.prog w = .ok (.agg (vcells (.iface T u) ms lim m 0).toArray) w := by
  obtain ⟨f, rfl⟩ := list_fn 32 ms h
  exact build_vault0 f T u _ m w
set_option maxRecDepth 100000 in
theorem build_place0 (f : Fin 32 → UInt8) (g : Fin 12 → UInt8) (w : World) : (Instr.build 56 #[(0, .agg (bvs (List.ofFn f)).toArray), (1, .agg (bvs (List.ofFn g)).toArray)]).run Try.prog w = .ok (.agg (bvs (List.ofFn f) ++ bvs (List.ofFn g)).toArray) w := by kernel_rfl
theorem build_place (k n : List UInt8) (hk : k.length = 32) (hn : n.length = 12) (w : World) : (Instr.build 56 #[(0, .agg (bvs k).toArray), (1, .agg (bvs n).toArray)]).run Try.prog w = .ok (pv (pl k n hk hn)) w := by
  obtain ⟨f, rfl⟩ := list_fn 32 k hk
  obtain ⟨g, rfl⟩ := list_fn 12 n hn
  rw [build_place0]
  unfold pv pl
  rw [← bvs_append]

theorem place_under : Try.prog.underlying 56 = some (.struct (Try.prog.fieldsOf 56)) := by kernel_rfl
theorem key_under : Try.prog.underlying 28 = some (.array 32 5) := by kernel_rfl
theorem eqKey (xs ys : List UInt8) (hx : xs.length = 32) (hy : ys.length = 32) (w : World) : (Op.equalIn 9999 28 (.agg (bvs xs).toArray) (.agg (bvs ys).toArray)).run Try.prog w = .ok (xs == ys) w :=
  run_equalIn_bytes w 9997 28 5 32 key_under (by kernel_rfl) (fun _ => by kernel_rfl) xs ys hx hy
theorem eqNonce (xs ys : List UInt8) (hx : xs.length = 12) (hy : ys.length = 12) (w : World) : (Op.equalIn 9999 53 (.agg (bvs xs).toArray) (.agg (bvs ys).toArray)).run Try.prog w = .ok (xs == ys) w :=
  run_equalIn_bytes w 9997 53 5 12 arrN (by kernel_rfl) (fun _ => by kernel_rfl) xs ys hx hy
theorem pl_split (p : Pl) : ∃ k n, ∃ hk : k.length = 32, ∃ hn : n.length = 12, p = pl k n hk hn := by
  obtain ⟨l, hl⟩ := p
  exact ⟨l.take 32, l.drop 32, by simp [hl], by simp [hl], by simp [pl]⟩
theorem pv_inj (a b : Pl) (h : pv a = pv b) : a = b := by
  have h1 : bvs a.1 = bvs b.1 := by
    have := congrArg (fun v => match v with | Value.agg cs => cs.toList | _ => []) h
    simpa [pv] using this
  refine Pl.same (List.ext_getElem (by rw [a.2, b.2]) fun i h2 h3 => ?_)
  have h4 := congrArg (fun l => l[i]?) h1
  simp only [bvs_get h2, bvs_get h3, Option.some.injEq, bv, Value.int.injEq, true_and] at h4
  exact UInt8.toNat_inj.1 (by omega)
set_option maxRecDepth 100000 in
theorem eqP (a b : Pl) (w : World) : (Op.equalIn 10000 56 (pv a) (pv b)).run Try.prog w = .ok (decide (a = b)) w := by
  obtain ⟨k, n, hk, hn, rfl⟩ := pl_split a
  obtain ⟨k2, n2, hk2, hn2, rfl⟩ := pl_split b
  have e1 : ∀ (k n : List UInt8) (hk : k.length = 32) (hn : n.length = 12), (bvs (pl k n hk hn).val).take 32 = bvs k ∧ ((bvs (pl k n hk hn).val).drop 32).take 12 = bvs n := by
    intro k n hk hn
    show (bvs (k ++ n)).take 32 = bvs k ∧ ((bvs (k ++ n)).drop 32).take 12 = bvs n
    rw [bvs_append]
    exact ⟨List.take_left' (by rw [bvs_length, hk]), by rw [List.drop_left' (by rw [bvs_length, hk]), List.take_of_length_le (by rw [bvs_length, hn]; exact Nat.le_refl _)]⟩
  unfold pv
  rw [run_equalIn_struct w 9999 56 _ _ (by kernel_rfl) (by kernel_rfl)]
  go_simp
  rw [eqKey k k2 hk hk2]
  simp only [Result.andThen_ok, eqNonce n n2 hn hn2]
  have e2 : (pl k n hk hn = pl k2 n2 hk2 hn2) = (k = k2 ∧ n = n2) := by
    refine propext ⟨fun h => ?_, fun ⟨h, h'⟩ => by subst h; subst h'; rfl⟩
    have := congrArg Pl.val h
    exact List.append_inj this (by rw [hk, hk2])
  have e3 : decide (pl k n hk hn = pl k2 n2 hk2 hn2) = (decide (k = k2) && decide (n = n2)) := by
    rw [Bool.eq_iff_iff, Bool.and_eq_true, decide_eq_true_iff, decide_eq_true_iff, decide_eq_true_iff, e2]
  rw [e3]
  clear e1 e2 e3
  by_cases h1 : k = k2
  · by_cases h2 : n = n2
    · subst h1; subst h2; simp
    · subst h1; simp [h2]
  · simp [h1]
theorem bits_u8 (b : UInt8) : Instr.sameBits 9999 (bv b) (bv b) = true := by simp [bv, Instr.sameBits]
theorem check_place (f : Fin 44 → UInt8) (w : World) (em : Bool) : (Instr.checkKey em 10000 56 (.agg (bvs (List.ofFn f)).toArray)).run Try.prog w = .ok () w := by cases em <;> kernel_rfl
theorem place_keys : KeyL Try.prog 56 pv :=
  keyL_of_equal place_under (fun w a b => eqP a b w) pv_inj (fun w em a => by
    obtain ⟨l, hl⟩ := a
    obtain ⟨f, rfl⟩ := list_fn 44 l hl
    exact check_place f w em) (fun a => by
    simp only [pv, Instr.sameBits, List.size_toArray, BEq.rfl, Bool.true_and]
    rw [List.all_eq_true]
    rintro ⟨x, y⟩ hxy
    obtain ⟨i, hi, he⟩ := List.mem_iff_getElem.1 hxy
    simp only [List.getElem_zip, Prod.mk.injEq] at he
    obtain ⟨rfl, rfl⟩ := he
    simp only [bvs, List.getElem_map]
    exact bits_u8 _)
end Go.Proofs.Ytmmpmncioifeoaa.Vault
