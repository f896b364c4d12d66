/- Lemmas: AppI ResC PutO ChaI. -/
import Derived.Test.YtigdlnfgdjfdoaaGreatZK20
import Derived.RangeFuncBox
set_option maxHeartbeats 4000000
set_option maxRecDepth 100000
set_option linter.unusedVariables false
set_option linter.unusedSimpArgs false
namespace Go.Proofs.YtigdlnfgdjfdoaaGreat
namespace Kit
open Go Go.RowKit
theorem wpListIn_appKO {F : Fence} {N : Nat} {P : Program} (w : World) {ops : Array Oper} {rest : List Oper} {o : Oper} {a : Act} {Q : Exit → Act → World → Prop} (hg : o.guard = none) (s x : Operand) (t : TypeId)
    (ho : o.op = .call { callee := .builtin .append, args := #[s, x], argTypes := #[t, t] })
    (k : Nat) (hk : 0 < k) (e : TypeId) (i : TypeInfo) (z : Value) (bytes : Nat) (ht : P.underlying t = some (.slice e)) (hi : P.info? e = some i) (hz : i.zero = some z)
    (hsize : i.size = k) (hby : i.bytes = bytes) (hzs : z.cells.size = k)
    (A : Option Addr) (n c : Nat) (xs : List Value) (hs : a.eval s = .slice A n c) (hown : OwnK k e w A n c xs)
    (B : Option Addr) (m d : Nat) (ys : List Value) (hx : a.eval x = .slice B m d) (hB : B = none → m = 0) (hm : ys.length = m * k) (hrow : Row w B ys) (h1 : ∀ u ∈ ys, u.oneCell' = true)
    (hbytes : (n + m) * bytes ≤ 140737488355328) (hmx : n + m ≤ maxLen)
    (h : ∀ A' c' w', OwnK k e w' A' (n + m) c' (xs ++ ys) → w.grownBy w' (ab A) → (ab A' = ab A ∨ ab A' = some w.heap.size) → wpListIn F N P ops Q rest (a.put o.dst (.slice A' (n + m) c')) w') : wpListIn F N P ops Q (o :: rest) a w := by
 obtain ⟨A', c', w', hr, h2, h3, h4⟩ := run_appKO (P := P) w t o.type k hk e i z bytes ht hi hz hsize hby hzs A n c xs hown B m d ys hB hm hrow h1 hbytes hmx
 refine wpListIn_plain hg fun K hK => ?_
 unfold Oper.wpIn
 refine ⟨?_, ?_⟩
 · simp [Oper.about, ho, resolve, Target.leads, Sem.run_pure]
 · rw [Oper.semAt_plain F _ _ (by rw [ho]; intro c hc'; cases hc'), exec_app s x t ho _ _ hs hx hr]
   exact hK _ _ (h A' c' w' h2 h3 h4)
theorem run_loadVar_cell {P : Program} (w : World) (ty : TypeId) (g : Nat) (v : Value) (h : w.cell? ⟨g, 0, none⟩ = some v) (ha : (isAgg ty).run P w = .ok false w) : (loadVar ty ⟨g, 0, none⟩).run P w = .ok v w := by
 simp [loadVar, Sem.run_bind, ha, Result.andThen, h]
theorem results_cell1 {P : Program} {fn : Func} {p : Tmp} {ty : TypeId} (h : fn.results = #[.cell p ty]) (tmps : Array Value) (w : World) (g : Nat) (v : Value)
    (hp : tmps.getD p undef = .pointer (some ⟨g, 0, none⟩)) (hg : w.cell? ⟨g, 0, none⟩ = some v) (ha : (isAgg ty).run P w = .ok false w) : (results fn tmps).run P w = .ok v w := by
 have h1 : (results fn tmps).run P w = ((asAddr (tmps.getD p undef)).run P w).andThen fun a w₁ => (loadVar ty a).run P w₁ := by
  simp only [results, h]
  simp [Sem.run_bind, Result.andThen]
 rw [h1, hp]
 simp [asAddr, Result.andThen, run_loadVar_cell w ty g v hg ha]
theorem results_cell2 {P : Program} {fn : Func} {p q : Tmp} {ty ty2 : TypeId} (h : fn.results = #[.cell p ty, .cell q ty2]) (tmps : Array Value) (w : World) (g g2 : Nat) (v v2 : Value)
    (hp : tmps.getD p undef = .pointer (some ⟨g, 0, none⟩)) (hg : w.cell? ⟨g, 0, none⟩ = some v) (ha : (isAgg ty).run P w = .ok false w)
    (hq : tmps.getD q undef = .pointer (some ⟨g2, 0, none⟩)) (hg2 : w.cell? ⟨g2, 0, none⟩ = some v2) (ha2 : (isAgg ty2).run P w = .ok false w) : (results fn tmps).run P w = .ok (.tuple #[v, v2]) w := by
 have h1 : (results fn tmps).run P w = ((asAddr (tmps.getD p undef)).run P w).andThen fun a w₁ => ((loadVar ty a).run P w₁).andThen fun x w₂ => ((asAddr (tmps.getD q undef)).run P w₂).andThen fun b w₃ => ((loadVar ty2 b).run P w₃).andThen fun y w₄ => .ok (.tuple #[x, y]) w₄ := by
  simp only [results, h]
  simp [Sem.run_bind, Result.andThen]
 rw [h1, hp, hq]
 simp [asAddr, Result.andThen, run_loadVar_cell w ty g v hg ha, run_loadVar_cell w ty2 g2 v2 hg2 ha2]
theorem Kp.putO (W : World) (l : Nat) (o' : Obj) : Kp (fun j => j = l) W (W.putObj l o') := by
 have g := grownBy_putObj' W l o'
 exact ⟨g.os, g.tape, g.output, g.size, fun k hk hn => g.block k hk (fun e => hn (by cases e; rfl))⟩
theorem Blk.putO {W : World} {g l : Nat} {t : TypeId} {cs : List Value} {o : Obj} (h : Blk W g t cs) (o' : Obj) (hl : W.heap[l]? = some o) (hc : o.isCells = false) : Blk (W.putObj l o') g t cs :=
 h.keep (Kp.putO W l o') (fun e => by
  subst e
  have h1 : W.heap[g]? = _ := h
  rw [hl] at h1; cases h1; cases hc)
theorem Row.putO {W : World} {l : Nat} {A : Option Addr} {xs : List Value} {o : Obj} (h : Row W A xs) (o' : Obj) (hl : W.heap[l]? = some o) (hc : o.isCells = false) : Row (W.putObj l o') A xs := by
 rcases xs with _ | ⟨x, xs⟩
 · exact Row.nil _ _
 · refine h.keep (Kp.putO W l o') (fun j e e2 => ?_)
   subst e2
   rcases h with h | ⟨b, p, rfl, hb, hcell⟩
   · cases h
   · cases e
     have h0 := hcell 0 x rfl
     simp only [World.cell?, hl] at h0
     cases o <;> first | (exact Bool.noConfusion hc) | (exact absurd h0 (by simp))
theorem OwnK.putO {k : Nat} {e : TypeId} {W : World} {l : Nat} {A : Option Addr} {n c : Nat} {xs : List Value} {o : Obj} (h : OwnK k e W A n c xs) (o' : Obj) (hl : W.heap[l]? = some o) (hc : o.isCells = false) : OwnK k e (W.putObj l o') A n c xs :=
 ownsRow_putObj h o' hl hc
end Kit
namespace Disk
open Go Go.RowKit Kit
attribute [local go_sem] Oper.semAt_some
theorem agg_bs (w : World) : (isAgg 58).run Tryz.prog w = .ok false w := by kernel_rfl
theorem agg_e (w : World) : (isAgg 30).run Tryz.prog w = .ok false w := by kernel_rfl
theorem slice_hm256 (A : Option Addr) (n c v : Nat) (h : v ≤ c) (w : World) : (Instr.slice 58 (.slice A n c) none (some (.int .i64 (v : Int))) (some (.int .i64 (v : Int)))).run Tryz.prog w = .ok (.slice (cutA A v 0) v v) w := by
 have he : Tryz.prog.elem 58 = 5 := by kernel_rfl
 rw [run_slice_hm w 58 A n c (by kernel_rfl) .i64 .i64 v v (by omega) (by omega) (by omega), he, u8_szr]
 simp [Result.andThen, sliced, cutA]
theorem next_down (D : Dk) (g N S : Nat) (W : Option Addr) (cW a : Nat) (A : Ar) (w : World) (hd : Cd w g N S W cW D) (ha : IsA w a g A) (ho : D.off = true) :
    Calls Tryz.prog 75 #[.pointer (some ⟨a, 0, none⟩)] w fun e w' => e = .returned (.tuple #[.slice none 0 0, .int .i64 8]) ∧ Kp nob w w' := by
 have HK := Lib.hid (fun a b c => ((((Kp.refl nob w).alloc a).alloc b).alloc c))
 have hca : ∀ x y z, (((w.alloc x).alloc y).alloc z).cell? ⟨a, 0, none⟩ = some (.pointer (some ⟨g, 0, none⟩)) := fun x y z => (IsA.cells (areaP.keep ha (HK.out x y z) (fun e => e))).1
 have HDN := Lib.hid (fun x y z => down_any D g N S W cW _ (hd.keep0 (HK.out x y z)))
 rw [ho] at HDN
 clear hd ha
 go_enter Tryz.func75, Tryz.ntmps75
 go_wp2_with fail
 refine (HDN.out _ _ _).mono ?_
 rintro e w1 ⟨rfl, rfl⟩
 go_wp2
 refine bodyPost_ret (results_cell2 rfl _ _ (w.heap.size + 1) (w.heap.size + 1 + 1) (.slice none 0 0) (.int .i64 8) rfl ?_ (agg_bs _) rfl ?_ (agg_e _)) rfl ⟨rfl, HK.out _ _ _⟩
 · have hb : Blk ((w.alloc (.cells #[.pointer (some ⟨a, 0, none⟩)] 102)).alloc (.cells #[.slice none 0 0] 58)) (w.heap.size + 1) 58 [.slice none 0 0] := Blk.new' (by simp) rfl
   exact (hb.alloc _).cell 0
 · have hb : Blk (((w.alloc (.cells #[.pointer (some ⟨a, 0, none⟩)] 102)).alloc (.cells #[.slice none 0 0] 58)).alloc (.cells #[.int .i64 8] 30)) (w.heap.size + 1 + 1) 30 [.int .i64 8] := Blk.new' (by simp) rfl
   exact hb.cell 0
def sofar (D : Dk) (p i : Nat) : List UInt8 := ((List.range i).map (secAt D p)).flatten
theorem sofar_succ (D : Dk) (p i : Nat) : sofar D p (i + 1) = sofar D p i ++ secAt D p i := by
 unfold sofar; rw [List.range_succ, List.map_append, List.flatten_append]; simp
theorem secAt_len (D : Dk) (h : Ok D) (p i : Nat) (hi : p + i < D.now.length) : (secAt D p i).length = 256 := by
 unfold secAt; rw [List.getD_eq_getElem?_getD, List.getElem?_eq_getElem hi]; exact h.now _ (List.getElem_mem hi)
structure Nx (B a g N S : Nat) (W : Option Addr) (cW : Nat) (D : Dk) (A : Ar) (w w5 : World) : Prop where
 sz : w5.heap.size = B + 5
 b0 : Blk w5 B 102 [.pointer (some ⟨a, 0, none⟩)]
 b1 : Blk w5 (B + 1) 58 [.slice none 0 0]
 b2 : Blk w5 (B + 2) 30 [.int .i64 0]
 b3 : Blk w5 (B + 3) 58 [.slice none 0 0]
 b4 : Blk w5 (B + 4) 102 [.pointer (some ⟨a, 0, none⟩)]
 cd : Cd w5 g N S W cW D
 ia : IsA w5 a g A
 kp : Kp nob w w5
 lt : a < B ∧ (∀ j, dF g N S W j → j < B)
def FN (B : Nat) : Nat → Prop := fun j => j = B + 3 ∨ B + 5 ≤ j
structure Nr (B : Nat) (D : Dk) (A : Ar) (w5 : World) (i : Nat) (w6 : World) : Prop where
 o : ∃ X c, Blk w6 (B + 3) 58 [.slice X (256 * i) c] ∧ OwnK 1 5 w6 X (256 * i) c (bvs (sofar D A.pos i)) ∧ ∀ j, ab X = some j → B + 5 ≤ j
 kp : Kp (FN B) w5 w6
 look : aLook D.now A.top A.pos 64 0 [] = aLook D.now A.top A.pos (64 - i) i (sofar D A.pos i)
structure Ns (B a g : Nat) (D : Dk) (A : Ar) (w w6 : World) : Prop where
 ex : ∃ (j : Nat) (t : List UInt8) (X : Option Addr) (c : Nat), aNext D A = ({ A with pos := j }, t, 0) ∧ IsA w6 a g { A with pos := j } ∧ Blk w6 (B + 1) 58 [.slice X t.length c] ∧ Blk w6 (B + 2) 30 [.int .i64 0] ∧ Row w6 X (bvs t) ∧ t.length ≤ c ∧ c ≤ maxLen ∧ (X = none → c = 0) ∧ ∀ j, ab X = some j → B + 5 ≤ j
 kp : Kp (oneB a) w w6
theorem Nr.keep {B : Nat} {D : Dk} {A : Ar} {w5 : World} {i : Nat} {w6 w7 : World} (h : Nr B D A w5 i w6) (k : Kp nob w6 w7) : Nr B D A w5 i w7 := by
 obtain ⟨X, c, h1, h2, h3⟩ := h.o
 exact ⟨⟨X, c, h1.keep k (fun e => e), h2.keep k (fun _ _ e => e), h3⟩, h.kp.trans k (fun _ e => e.elim), h.look⟩
theorem Nr.putO {B : Nat} {D : Dk} {A : Ar} {w5 : World} {i : Nat} {w6 : World} (h : Nr B D A w5 i w6) {l : Nat} {o : Obj} (o' : Obj) (hB : B + 5 ≤ l) (hl : w6.heap[l]? = some o) (hc : o.isCells = false) : Nr B D A w5 i (w6.putObj l o') := by
 obtain ⟨X, c, h1, h2, h3⟩ := h.o
 exact ⟨⟨X, c, h1.putO o' hl hc, h2.putO o' hl hc, h3⟩, h.kp.trans (Kp.putO _ _ _) (fun j e => .inl (.inr (by omega))), h.look⟩
theorem Ns.keep {B a g : Nat} {D : Dk} {A : Ar} {w w6 w7 : World} (h : Ns B a g D A w w6) (k : Kp nob w6 w7) : Ns B a g D A w w7 := by
 obtain ⟨j, t, X, c, h1, h2, h3, h4, h5, h6⟩ := h.ex
 exact ⟨⟨j, t, X, c, h1, areaP.keep h2 k (fun e => e), h3.keep k (fun e => e), h4.keep k (fun e => e), h5.keep0 k, h6⟩, h.kp.trans k (fun _ e => e.elim)⟩
theorem Ns.putO {B a g : Nat} {D : Dk} {A : Ar} {w w6 : World} (h : Ns B a g D A w w6) {l : Nat} {o : Obj} (o' : Obj) (hB : w.heap.size ≤ l) (hl : w6.heap[l]? = some o) (hc : o.isCells = false) : Ns B a g D A w (w6.putObj l o') := by
 obtain ⟨j, t, X, c, h1, h2, h3, h4, h5, h6⟩ := h.ex
 exact ⟨⟨j, t, X, c, h1, Blk.putO h2 o' hl hc, h3.putO o' hl hc, h4.putO o' hl hc, h5.putO o' hl hc, h6⟩, h.kp.trans (Kp.putO _ _ _) (fun j e => .inr (by omega))⟩
theorem next_up (D : Dk) (g N S : Nat) (W : Option Addr) (cW a : Nat) (A : Ar) (w : World) (hd : Cd w g N S W cW D) (ha : IsA w a g A) (hne : ¬ dF g N S W a) (hp : A.pos ≤ A.top) (ht : A.top ≤ D.now.length) (ho : D.off = false) :
    Calls Tryz.prog 75 #[.pointer (some ⟨a, 0, none⟩)] w fun e w' => ∃ (X : Option Addr) (c : Nat), e = .returned (.tuple #[.slice X (aNext D A).2.1.length c, .int .i64 (aNext D A).2.2]) ∧ Row w' X (bvs (aNext D A).2.1) ∧ (aNext D A).2.1.length ≤ c ∧ c ≤ maxLen ∧ (X = none → c = 0) ∧ (∀ i, ab X = some i → w.heap.size ≤ i) ∧ Kp (oneB a) w w' ∧ IsA w' a g (aNext D A).1 := by
 obtain ⟨B, hB⟩ : ∃ B, B = w.heap.size := ⟨_, rfl⟩
 have HK := Lib.hid (fun a b c => ((((Kp.refl nob w).alloc a).alloc b).alloc c))
 have hca : ∀ x y z, (((w.alloc x).alloc y).alloc z).cell? ⟨a, 0, none⟩ = some (.pointer (some ⟨g, 0, none⟩)) := fun x y z => (IsA.cells (areaP.keep ha (HK.out x y z) (fun e => e))).1
 have HDN := Lib.hid (fun x y z => down_any D g N S W cW _ (hd.keep0 (HK.out x y z)))
 rw [ho] at HDN
 obtain ⟨w5, hw5⟩ : ∃ w5, w5 = ((((w.alloc (.cells #[.pointer (some ⟨a, 0, none⟩)] 102)).alloc (.cells #[.slice none 0 0] 58)).alloc (.cells #[.int .i64 0] 30)).alloc (.cells #[.slice none 0 0] 58)).alloc (.cells #[.pointer (some ⟨a, 0, none⟩)] 102) := ⟨_, rfl⟩
 have hNx : Nx B a g N S W cW D A w w5 := by
  have k5 : Kp nob w w5 := by rw [hw5]; exact (((((Kp.refl nob w).alloc _).alloc _).alloc _).alloc _).alloc _
  refine ⟨by rw [hw5, hB]; simp, ?_, ?_, ?_, ?_, ?_, hd.keep0 k5, areaP.keep ha k5 (fun e => e), k5, by rw [hB]; exact Blk.lt ha, by rw [hB]; exact hd.lt⟩
  · rw [hw5]; exact ((((Blk.new' hB rfl).alloc _).alloc _).alloc _).alloc _
  · rw [hw5]; refine (((Blk.new' ?_ rfl).alloc _).alloc _).alloc _; simp [hB]
  · rw [hw5]; refine ((Blk.new' ?_ rfl).alloc _).alloc _; simp [hB]
  · rw [hw5]; refine (Blk.new' ?_ rfl).alloc _; simp [hB]
  · rw [hw5]; refine Blk.new' ?_ rfl; simp [hB]
 have HNx := Lib.hid hNx
 have HB := Lib.hid hB
 have HP := Lib.hid (And.intro hp ht)
 clear hd ha hNx hp ht
 refine (callsIn_wide (n := 3)).1 ?_
 refine callsIn_of_wp_marks Tryz.func75 rfl trivial ?_ rfl
 simp only [Tryz.ntmps75, List.size_toArray, List.length_cons, List.length_nil, Nat.reduceAdd, Nat.reduceSub, Array.replicate_succ, Array.replicate_zero, List.push_toArray, List.append_toArray, List.nil_append, List.cons_append]
 gi_wp2_with fail
 refine ⟨trivial, ?_⟩
 refine (callsIn_wide.2 (HDN.out _ _ _)).mono ?_
 rintro e w1 ⟨rfl, rfl⟩
 gi_wp2_with fail
 refine ⟨trivial, ?_⟩
 refine (callsIn_wide.2 (behind_any a _)).mono ?_
 rintro e w1 ⟨rfl, rfl⟩
 gi_wp2
 rw [← hw5]
 simp only [← hB, Nat.add_assoc, Nat.reduceAdd]
 clear hw5 hB hca
 obtain ⟨M, hM⟩ : ∃ M, M = min 64 (A.top - A.pos) := ⟨_, rfl⟩
 have HM := Lib.hid hM
 refine rangeK (n := 3) (by decide) (gf := 99) (lb := #[.pointer (some ⟨B + 4, 0, none⟩)]) rfl (enters_of Tryz.func99 (by kernel_rfl) rfl) (el := elB A.pos) (fun i k => rfl)
  (V := VB D A.pos M) (VB.put D A.pos M) (K := Kp (FN B)) (fun h k => kp_t h k) (fun W' l o o' hl _ _ => (Kp.putO W' l o').mono (fun j _ e => .inr (by have := HNx.out.sz; omega)))
  (m := M) (behind_iter 2 (B + 4) a g N S W cW D A M (FN B) hM ho HP.out.1 HP.out.2 (by unfold FN; omega) (by have := HNx.out.lt.1; unfold FN; omega) (fun j e => by have := HNx.out.lt.2 j e; unfold FN; omega) w5 (HNx.out.b4.cell 0) HNx.out.b4.lt HNx.out.ia HNx.out.cd)
  (Nr B D A w5) (Ns B a g D A w) (fun i A' B' h k => h.keep k) (fun A' B' h k => h.keep k) (fun i A' l o o' hl h1 h2 h => h.putO o' (by have := HNx.out.sz; omega) h1 h2) (fun A' l o o' hl h1 h2 h => h.putO o' (by have := HNx.out.kp.size; omega) h1 h2)
  ?zero (fun i k => { tmps := #[.pointer (some ⟨a, 0, none⟩), .pointer (some ⟨B, 0, none⟩), .pointer (some ⟨B + 1, 0, none⟩), .pointer (some ⟨B + 2, 0, none⟩), .pointer (some ⟨B + 3, 0, none⟩), .int .i64 ((A.pos + i : Nat) : Int), .slice (some ⟨k, 0, none⟩) 256 256, undef, .bool false, .pointer (some ⟨a, 0, none⟩), .bool false, .bool false, .pointer (some ⟨a, 0, none⟩), .pointer (some ⟨a, 0, none⟩), .pointer (some ⟨a, 0, none⟩), .pointer (some ⟨g, 0, none⟩), .bool false, .pointer (some ⟨a, 0, none⟩), .func (.func 99) #[] #[.pointer (some ⟨B + 4, 0, none⟩)], .int .i64 ((A.pos + i : Nat) : Int), .slice (some ⟨k, 0, none⟩) 256 256, undef, undef, undef, undef, undef, undef, undef, undef, undef, undef, undef, undef, undef, undef, undef, undef], defers := [] }) ?assign ?body ?done ?stop
 case zero =>
  refine ⟨⟨none, 0, HNx.out.b3, OwnK.nil _ _ _, fun j e => by cases e⟩, Kp.refl _ _, rfl⟩
 case assign =>
  intro l i k W' K' hK'
  unfold elB
  gi_wp2
  exact hK'
 case stop =>
  intro D0 W' hD0 hs hdef
  obtain ⟨j, t, X, c, h1, h2, h3, h4, h5, h6, h7, h8, h9⟩ := hs.ex
  have HS := Lib.hid (And.intro h1 (And.intro h2 (And.intro h3 (And.intro h4 (And.intro h5 (And.intro h6 (And.intro h7 (And.intro h8 (And.intro h9 hs.kp)))))))))
  clear h1 h2 h3 h4 h5 h6 h7 h8 h9 hs
  dsimp only
  gi_wp2
  refine ⟨by simp, .inl ⟨_, _, rfl, run_takeDeferred hdef, ?_⟩⟩
  obtain ⟨h1, h2, h3, h4, h5, h6, h7, h8, h9, h10⟩ := HS.out
  refine ⟨_, results_cell2 rfl _ _ (B + 1) (B + 2) (.slice X t.length c) (.int .i64 0) rfl ((h3.putO _ hdef rfl).cell 0) (agg_bs _) rfl ((h4.putO _ hdef rfl).cell 0) (agg_e _), ?_⟩
  rw [h1]
  refine ⟨X, c, rfl, h5.putO _ hdef rfl, h6, h7, h8, fun i e => by have := h9 i e; have := HB.out; omega, h10.trans (Kp.putO _ _ _) (fun i e => .inr (by have := HNx.out.kp.size; omega)), Blk.putO h2 _ hdef rfl⟩
 case done =>
  intro D0 W' hD0 h hdef
  have hn : aNext D A = (A, [], 0) := by
   unfold aNext
   rw [if_neg (by simp [ho]), h.look]
   have hl : aLook D.now A.top A.pos (64 - M) M (sofar D A.pos M) = none := by
    have hM := HM.out
    have hp := HP.out.1
    by_cases h64 : M = 64
    · rw [show 64 - M = 0 by omega]; rfl
    · obtain ⟨f, hf⟩ : ∃ f, 64 - M = f + 1 := ⟨63 - M, by omega⟩
      rw [hf, aLook, if_neg (by omega)]
   rw [hl]
  have hb1 := HNx.out.b1.keep h.kp (by unfold FN; omega)
  have hb2 := HNx.out.b2.keep h.kp (by unfold FN; omega)
  have hia : IsA W' a g A := areaP.keep HNx.out.ia h.kp (by have := HNx.out.lt.1; unfold FN; omega)
  have c1 : W'.cell? ⟨B + 1, 0, none⟩ = some (.slice none 0 0) := hb1.cell 0
  have f1 := hb1.frozen 0
  have c2 : W'.cell? ⟨B + 2, 0, none⟩ = some (.int .i64 0) := hb2.cell 0
  have f2 := hb2.frozen 0
  have hz := HNx.out.sz
  have hkk : Kp (fun j => j = B + 1 ∨ j = B + 2) W' ((W'.setCell ⟨B + 1, 0, none⟩ (.slice none 0 0)).setCell ⟨B + 2, 0, none⟩ (.int .i64 0)) := ((Kp.refl _ W').setCell (.inl (.inl rfl)) _).setCell (.inl (.inr rfl)) _
  have hd2 : ((W'.setCell ⟨B + 1, 0, none⟩ (.slice none 0 0)).setCell ⟨B + 2, 0, none⟩ (.int .i64 0)).heap[D0]? = some (.deferred (some [])) := (hkk.block D0 (Array.getElem?_eq_some_iff.1 hdef).1 (by omega)).trans hdef
  have hB1 : Blk ((W'.setCell ⟨B + 1, 0, none⟩ (.slice none 0 0)).setCell ⟨B + 2, 0, none⟩ (.int .i64 0)) (B + 1) 58 [.slice none 0 0] := (hb1.set_ 0 (.slice none 0 0)).far (by simp) _
  have hB2 : Blk ((W'.setCell ⟨B + 1, 0, none⟩ (.slice none 0 0)).setCell ⟨B + 2, 0, none⟩ (.int .i64 0)) (B + 2) 30 [.int .i64 0] := (hb2.far (p := ⟨B + 1, 0, none⟩) (by simp) (.slice none 0 0)).set_ 0 (.int .i64 0)
  have hA2 : IsA ((W'.setCell ⟨B + 1, 0, none⟩ (.slice none 0 0)).setCell ⟨B + 2, 0, none⟩ (.int .i64 0)) a g A := areaP.keep hia hkk (by have := HNx.out.lt.1; omega)
  have hK2 : Kp nob w ((W'.setCell ⟨B + 1, 0, none⟩ (.slice none 0 0)).setCell ⟨B + 2, 0, none⟩ (.int .i64 0)) :=
   (HNx.out.kp.since h.kp (fun j e => by have := HB.out; unfold FN at e; omega)).since hkk (fun j e => by have := HB.out; omega)
  have HH := Lib.hid (And.intro hn (And.intro hd2 (And.intro hB1 (And.intro hB2 (And.intro hA2 hK2)))))
  clear hn hd2 hB1 hB2 hA2 hK2 hkk hb1 hb2 hia h hdef hz
  dsimp only
  gi_wp2
  obtain ⟨hn, hd2, hB1, hB2, hA2, hK2⟩ := HH.out
  refine ⟨by simp, .inl ⟨_, _, rfl, run_takeDeferred hd2, ?_⟩⟩
  refine ⟨_, results_cell2 rfl _ _ (B + 1) (B + 2) (.slice none 0 0) (.int .i64 0) rfl ((hB1.putO _ hd2 rfl).cell 0) (agg_bs _) rfl ((hB2.putO _ hd2 rfl).cell 0) (agg_e _), ?_⟩
  rw [hn]
  refine ⟨none, 0, rfl, Row.nil _ _, Nat.le_refl _, Nat.zero_le _, (fun _ => rfl), (fun i e => by cases e), (hK2.nob _).trans (Kp.putO _ _ _) (fun i e => .inr (by have := HNx.out.kp.size; omega)), Blk.putO hA2 _ hd2 rfl⟩
 case body =>
  intro l i k W' h hv
  obtain ⟨hi, hbk⟩ := hv
  obtain ⟨X, c, h1, h2, h3⟩ := h.o
  have hpi : A.pos + i < D.now.length := by have := HM.out; have := HP.out; omega
  have hsl := secAt_len D HNx.out.cd.ok A.pos i hpi
  obtain ⟨s, hs⟩ : ∃ s, s = secAt D A.pos i := ⟨_, rfl⟩
  obtain ⟨S0, hS0⟩ : ∃ S0, S0 = sofar D A.pos i := ⟨_, rfl⟩
  rw [← hs] at hbk hsl
  rw [← hS0] at h2
  obtain ⟨i0, hi0, hz0, hz1, hz2⟩ := info_parts u8_info
  have hrow : Row W' (some ⟨k, 0, none⟩) (bvs s) := hbk.row
  have c3 : W'.cell? ⟨B + 3, 0, none⟩ = some (.slice X (256 * i) c) := h1.cell 0
  have f3 := h1.frozen 0
  have HR := Lib.hid h
  have hM64 : i < 64 := by have := HM.out; omega
  have hbl : (bvs s).length = 256 * 1 := by rw [bvs_length, hsl]
  have HS := Lib.hid (And.intro hs hS0)
  clear hs hS0
  gi_wp2_with (refine wpListIn_appKO _ rfl (.tmp 21) (.tmp 22) 58 rfl 1 (by decide) 5 i0 (.int .u8 0) 1 u8_under hi0 hz0 hz1 hz2 rfl X (256 * i) c (bvs S0) rfl h2 (some ⟨k, 0, none⟩) 256 256 (bvs s) rfl (fun h => by cases h) hbl hrow (bvs_one _) (by omega) (by unfold maxLen; omega) ?_)
  intro X2 c2 w2 hown hg hab
  have hW5 : B + 5 ≤ W'.heap.size := by have := h.kp.size; have := HNx.out.sz; omega
  have hX2 : ∀ j, ab X2 = some j → B + 5 ≤ j := fun j e => by
   rcases hab with e2 | e2
   · exact h3 j (by rw [← e2]; exact e)
   · rw [e2] at e; cases e; exact hW5
  have k2 : Kp (rowF X) W' w2 := Kp.of_grown hg (fun j e => e)
  have hrX : ∀ j, rowF X j → B + 5 ≤ j := fun j e => h3 j e
  have hb3 := h1.keep k2 (fun e => by have := hrX _ e; omega)
  have c4 : w2.cell? ⟨B + 3, 0, none⟩ = some (.slice X (256 * i) c) := hb3.cell 0
  have f4 := hb3.frozen 0
  rw [show bvs S0 ++ bvs s = bvs (S0 ++ s) by rw [bvs_append]] at hown
  obtain ⟨w3, hw3⟩ : ∃ w3, w3 = w2.setCell ⟨B + 3, 0, none⟩ (.slice X2 (256 * i + 256) c2) := ⟨_, rfl⟩
  have hb33 : Blk w3 (B + 3) 58 [.slice X2 (256 * i + 256) c2] := by rw [hw3]; exact hb3.set_ 0 _
  have k3 : Kp (FN B) W' w3 := by
   rw [hw3]
   exact (k2.mono (fun j _ e => .inr (hrX j e))).setCell (.inl (.inl rfl)) _
  have ho3 : OwnK 1 5 w3 X2 (256 * i + 256) c2 (bvs (S0 ++ s)) := by
   have kk : Kp (fun j => j = B + 3) w2 w3 := by rw [hw3]; exact (Kp.refl (fun j => j = B + 3) w2).setCell (p := ⟨B + 3, 0, none⟩) (.inl rfl) _
   exact hown.keep kk (fun j e e2 => by have := hX2 j e; omega)
  have ko3 : KeepsOthers W' w3 := by
   rw [hw3]
   have kk : Kp (fun j => j = B + 3 ∨ ab X = some j) W' (w2.setCell ⟨B + 3, 0, none⟩ (.slice X2 (256 * i + 256) c2)) := (k2.mono (fun j _ e => .inr e)).setCell (.inl (.inl rfl)) _
   refine kk.others (fun j o hj ho => ?_)
   rcases hj with rfl | e
   · have hx : W'.heap[B + 3]? = _ := h1
     rw [hx] at ho; cases ho; rfl
   · rcases h2.2 with ⟨h5, _⟩ | ⟨g5, cap, cur, h5, _, h6, _⟩
     · injection h5 with h5; rw [h5] at e; cases e
     · injection h5 with h5
       rw [h5] at e; cases e
       rw [h6] at ho; cases ho; rfl
  have hlen : (S0 ++ s).length = 256 * i + 256 := by
   have := hown.len
   rw [bvs_length] at this; omega
  have hcap := ho3.cap
  have hnone : X2 = none → c2 = 0 := own_none ho3
  have hLE := length_c X2 (256 * i + 256) c2 (S0 ++ s) w3 hlen ho3.row (by omega) hnone hcap.1 hcap.2
  obtain ⟨v, hv⟩ : ∃ v, v = flen (S0 ++ s) := ⟨_, rfl⟩
  rw [← hv] at hLE
  have HLE := Lib.hid hLE
  have HV := Lib.hid hv
  have hvle : v ≤ 256 * i + 256 := by have := flen_le (S0 ++ s); omega
  have HVL := Lib.hid hvle
  have H3 := Lib.hid (And.intro hb33 (And.intro k3 (And.intro ho3 (And.intro ko3 (And.intro hlen (And.intro hcap (And.intro hnone hX2)))))))
  have c5 : w3.cell? ⟨B + 3, 0, none⟩ = some (.slice X2 (256 * i + 256) c2) := hb33.cell 0
  have HMi := Lib.hid (And.intro hi hM64)
  have HPi := Lib.hid hpi
  clear hv hvle hLE hb33 k3 ho3 ko3 hlen hcap hnone hX2 hown hg hab hW5 k2 hrX hb3 hi hM64 hpi h h1 h2 h3 c3 f3 hbk hrow hbl hsl
  have hlk : A.pos + i < A.top := by have := HMi.out; have := HM.out; omega
  have HLK := Lib.hid hlk
  clear hlk
  by_cases hv0 : v = 0
  · have hvd : decide (0 < v) = false := by rw [hv0]; rfl
    gi_wp2
    rw [← hw3]
    clear hw3
    refine ⟨trivial, ?_⟩
    refine (callsIn_of HLE.out).mono ?_
    rintro e w4 ⟨rfl, k4⟩
    have HN : Hid (KeepsOthers W' w4 ∧ Kp (FN B) W' w4 ∧ Nr B D A w5 (i + 1) w4) := Lib.hid (by
     obtain ⟨hb33, k3, ho3, ko3, hlen, hcap, hnone, hX2⟩ := H3.out
     refine ⟨ko3.trans k4.others0, k3.trans k4 (fun _ e => e.elim), ⟨X2, c2, ?_, ?_, hX2⟩, (HR.out.kp.trans k3 (fun _ e => .inl e)).trans k4 (fun _ e => e.elim), ?_⟩
     · rw [show 256 * (i + 1) = 256 * i + 256 by omega]; exact hb33.keep k4 (fun e => e)
     · rw [show 256 * (i + 1) = 256 * i + 256 by omega, sofar_succ, ← HS.out.1, ← HS.out.2]; exact ho3.keep k4 (fun _ _ e => e)
     · rw [HR.out.look, show 64 - i = (64 - (i + 1)) + 1 by have := HMi.out.2; omega, aLook, if_pos HLK.out, sofar_succ]
       rw [show A.pos + i = A.pos + i from rfl, show D.now.getD (A.pos + i) [] = secAt D A.pos i from rfl, ← HS.out.1, ← HS.out.2, ← HV.out, if_neg (by omega)])
    gi_wp2
    exact HN.out
  · have hvd : decide (0 < v) = true := decide_eq_true (by omega)
    have HN : Hid (aNext D A = ({ A with pos := A.pos + i + 1 }, (S0 ++ s).take v, 0)) := Lib.hid (by
     unfold aNext
     rw [if_neg (by simp [ho]), HR.out.look, show 64 - i = (64 - (i + 1)) + 1 by have := HMi.out.2; omega, aLook, if_pos HLK.out]
     rw [show D.now.getD (A.pos + i) [] = secAt D A.pos i from rfl, ← HS.out.1, ← HS.out.2, ← HV.out, if_pos (by omega)])
    have e4 : IntKind.i64.wrap ((A.pos : Int) + (i : Int) + 1) = ((A.pos + i + 1 : Nat) : Int) := by
     have := HLK.out; have := HP.out; have := HNx.out.cd.max
     rw [IntWalk.i64_in _ (by omega)]; omega
    gi_wp2
    rw [← hw3]
    clear hw3
    refine ⟨trivial, ?_⟩
    refine (callsIn_of HLE.out).mono ?_
    rintro e w4 ⟨rfl, k4⟩
    have hltB := HNx.out.lt.1
    have hk64 : Kp (FN B) w5 w4 := (HR.out.kp.trans H3.out.2.1 (fun _ e => .inl e)).trans k4 (fun _ e => e.elim)
    have hb0 := HNx.out.b0.keep hk64 (by unfold FN; omega)
    have hb1 := HNx.out.b1.keep hk64 (by unfold FN; omega)
    have hb2 := HNx.out.b2.keep hk64 (by unfold FN; omega)
    have hia : IsA w4 a g A := areaP.keep HNx.out.ia hk64 (by unfold FN; omega)
    have hb3 := H3.out.1.keep k4 (fun e => e)
    have c0 : w4.cell? ⟨B, 0, none⟩ = some (.pointer (some ⟨a, 0, none⟩)) := hb0.cell 0
    have c1 : w4.cell? ⟨B + 1, 0, none⟩ = some (.slice none 0 0) := hb1.cell 0
    have c2' : w4.cell? ⟨B + 2, 0, none⟩ = some (.int .i64 0) := hb2.cell 0
    have c3 : w4.cell? ⟨B + 3, 0, none⟩ = some (.slice X2 (256 * i + 256) c2) := hb3.cell 0
    have ca : w4.cell? ⟨a, 1, none⟩ = some (.int .i64 (A.pos : Int)) := hia.cells.2.1
    have f1 := hb1.frozen 0
    have f2 := hb2.frozen 0
    have fa : w4.frozen? ⟨a, 1, none⟩ = false := Blk.frozen hia 1
    have n1 : ¬ (a = B + 1) := by omega
    have n2 : ¬ (a = B + 2) := by omega
    have n3 : ¬ (a = B + 3) := by omega
    have n1' : ¬ (B + 1 = a) := by omega
    have n2' : ¬ (B + 2 = a) := by omega
    have n3' : ¬ (B + 3 = a) := by omega
    have hsm := slice_hm256 X2 (256 * i + 256) c2 v (by have := HVL.out; have := H3.out.2.2.2.2.2.1.1; omega)
    obtain ⟨w9, hw9⟩ : ∃ w9, w9 = ((w4.setCell ⟨a, 1, none⟩ (.int .i64 ((A.pos + i + 1 : Nat) : Int))).setCell ⟨B + 1, 0, none⟩ (.slice (cutA X2 v 0) v v)).setCell ⟨B + 2, 0, none⟩ (.int .i64 0) := ⟨_, rfl⟩
    have HE : Hid (KeepsOthers W' w9 ∧ Ns B a g D A w w9) := Lib.hid (by
     obtain ⟨hb33, k3, ho3, ko3, hlen, hcap, hnone, hX2⟩ := H3.out
     have k9 : Kp (fun j => j = a ∨ j = B + 1 ∨ j = B + 2) w4 w9 := by
      rw [hw9]
      exact (((Kp.refl (fun j => j = a ∨ j = B + 1 ∨ j = B + 2) w4).setCell (p := ⟨a, 1, none⟩) (.inl (.inl rfl)) _).setCell (p := ⟨B + 1, 0, none⟩) (.inl (.inr (.inl rfl))) _).setCell (p := ⟨B + 2, 0, none⟩) (.inl (.inr (.inr rfl))) _
     have ko9 : KeepsOthers w4 w9 := k9.others (fun j o hj ho' => by
      rcases hj with rfl | rfl | rfl
      · have hx : w4.heap[j]? = _ := hia
        rw [hx] at ho'; cases ho'; rfl
      · have hx : w4.heap[B + 1]? = _ := hb1
        rw [hx] at ho'; cases ho'; rfl
      · have hx : w4.heap[B + 2]? = _ := hb2
        rw [hx] at ho'; cases ho'; rfl)
     refine ⟨(ko3.trans k4.others0).trans ko9, ⟨A.pos + i + 1, (S0 ++ s).take v, cutA X2 v 0, v, HN.out, ?_, ?_, ?_, ?_, ?_, ?_, ?_, ?_⟩, ?_⟩
     · rw [hw9]; exact ((Blk.set_ hia 1 (.int .i64 ((A.pos + i + 1 : Nat) : Int))).far (by simpa using n1) _).far (by simpa using n2) _
     · rw [hw9, List.length_take, show min v (S0 ++ s).length = v by have := HVL.out; omega]
       exact ((hb1.far (p := ⟨a, 1, none⟩) (by simpa using n1') _).set_ 0 (.slice (cutA X2 v 0) v v)).far (by simp) _
     · rw [hw9]
       exact ((hb2.far (p := ⟨a, 1, none⟩) (by simpa using n2') _).far (p := ⟨B + 1, 0, none⟩) (by simp) _).set_ 0 (.int .i64 0)
     · have hr := (ho3.row.take v).cut (c := v) (k := 0) (by rw [List.length_take]; omega)
       rw [List.drop_zero, show (bvs (S0 ++ s)).take v = bvs ((S0 ++ s).take v) by rw [bvs, bvs, List.map_take]] at hr
       refine (hr.keep0 k4).keep k9 (fun j e e2 => ?_)
       rw [ab_cut] at e
       have := hX2 j e
       omega
     · rw [List.length_take]; omega
     · have := HVL.out; have := HMi.out.2; unfold maxLen; omega
     · intro e
       have : X2 = none := by
        unfold cutA at e
        split at e
        · exact e
        · cases X2 with
          | none => rfl
          | some _ => cases e
       have h0 := hnone this
       have := HVL.out; omega
     · intro j e
       rw [ab_cut] at e
       exact hX2 j e
     · refine ((HNx.out.kp.since hk64 (fun j e => by have := HB.out; unfold FN at e; omega)).nob (oneB a)).trans k9 (fun j e => ?_)
       have := HB.out
       rcases e with rfl | rfl | rfl
       · exact .inl rfl
       · exact .inr (by omega)
       · exact .inr (by omega))
    have HW9 := Lib.hid hw9
    clear hb0 hb1 hb2 hia hb3 hk64 hltB k4 hw9
    gi_wp2
    have hE := HE.out
    rw [HW9.out] at hE
    exact hE
theorem next_c : NextC areaP := by
 intro D g N S W cW a A w hd ha hne hp ht
 by_cases ho : D.off = true
 · have hn : aNext D A = (A, [], 8) := by unfold aNext; rw [if_pos (by simp [ho])]
   rw [hn]
   refine (next_down D g N S W cW a A w hd ha ho).mono ?_
   rintro e w' ⟨rfl, k⟩
   exact ⟨none, 0, rfl, Row.nil _ _, Nat.le_refl _, Nat.zero_le _, (fun _ => rfl), (fun i e => by cases e), k.nob _, areaP.keep ha k (fun e => e)⟩
 · exact next_up D g N S W cW a A w hd ha hne hp ht (by simpa using ho)
end Disk
end Go.Proofs.YtigdlnfgdjfdoaaGreat
