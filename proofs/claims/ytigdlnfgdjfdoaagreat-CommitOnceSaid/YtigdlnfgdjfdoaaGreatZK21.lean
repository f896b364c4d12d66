/- Lemmas: Rng Chk. -/
import Derived.Test.YtigdlnfgdjfdoaaGreatZK00
import Derived.RangeFuncFrom
import Derived.RangeFuncLeaves
import Derived.RangeFuncBound
import Derived.Shelf.Abstract
import Derived.Shelf.RegionOpen
import Derived.OwnWalkIn
import Derived.TacticsInMore
import Derived.LoopNIn
import Derived.LoopIn
import Derived.BigQuiet
import Derived.Deep.QuietTactic
set_option maxHeartbeats 4000000
set_option maxRecDepth 100000
set_option linter.unusedVariables false
set_option linter.unusedSimpArgs false
namespace Go.Proofs.YtigdlnfgdjfdoaaGreat
open Go Go.RowKit Kit
def rPost (K : World → World → Prop) (I : World → Prop) (Ir : World → Prop) (W : World) : Exit → Act → World → Prop
 | .normal, _, W' => KeepsOthers W W' ∧ K W W' ∧ I W'
 | .ret, _, W' => KeepsOthers W W' ∧ Ir W'
 | _, _, _ => False
def Iter (n : Nat) (P : Program) (gf : Nat) (lb : Array Value) (el : Nat → Nat → Array Value) (V : Nat → Nat → World → Prop) (K : World → World → Prop) (m : Nat) (w : World) : Prop :=
 ∀ (l : Nat) (J : Nat → World → Prop) (X : World → Prop) (W : World), Kp nob w W → (∀ i A B, J i A → Kp nob A B → J i B) → (∀ A B, X A → Kp nob A B → X B) →
  (∀ i k W1, J i W1 → V i k W1 → YieldAt Fence.wide (n - 1) P l (el i k) W1 fun e W' => (e = .returned (.bool true) ∧ J (i + 1) W' ∧ K W1 W') ∨ (e = .returned (.bool false) ∧ X W')) →
  J 0 W → CallsIn Fence.wide n P gf (#[.func (.yield l) #[] #[]] ++ lb) W fun e W' => (∃ v, e = .returned v) ∧ (J m W' ∨ X W')
theorem kp_same {A B : World} (k : Kp nob A B) {l : Nat} {o : Obj} (h : A.heap[l]? = some o) : B.heap[l]? = some o :=
 (k.block l (Array.getElem?_eq_some_iff.1 h).1 (fun e => e)).trans h
theorem rangeK {n : Nat} {P : Program} {g : Operand} {ps : Array Tmp} {assign body : Code} {Q : Exit → Act → World → Prop} {a : Act} {w : World} (h1 : 1 ≤ n) {gf : Nat} {lb : Array Value}
    (hg : a.eval g = .func (.func gf) #[] lb) (eg : ∀ args w, (callFunc gf args).run P w = .ok (.enter gf args) w) {el : Nat → Nat → Array Value} (hps : ∀ i k, (el i k).size = ps.size)
    {V : Nat → Nat → World → Prop} (hV : ∀ (i k : Nat) (W : World) (l : Nat) (o o' : Obj), W.heap[l]? = some o → o.isCells = false → V i k W → V i k (W.putObj l o'))
    {K : World → World → Prop} (hKt : ∀ {A B C : World}, K A B → K B C → K A C) (hKb : ∀ (W : World) (l : Nat) (o o' : Obj), w.heap.size ≤ l → W.heap[l]? = some o → o.isCells = false → K W (W.putObj l o'))
    {m : Nat} (hit : Iter (n - 1) P gf lb el V K m w) (I : Nat → World → Prop) (Ir : World → Prop)
    (hI : ∀ i A B, I i A → Kp nob A B → I i B) (hR : ∀ A B, Ir A → Kp nob A B → Ir B)
    (hIo : ∀ (i : Nat) (A : World) (l : Nat) (o o' : Obj), w.heap.size ≤ l → A.heap[l]? = some o → o.isCells = false → I i A → I i (A.putObj l o'))
    (hRo : ∀ (A : World) (l : Nat) (o o' : Obj), w.heap.size ≤ l → A.heap[l]? = some o → o.isCells = false → Ir A → Ir (A.putObj l o'))
    (h0 : I 0 w) (a₁ : Nat → Nat → Act)
    (hassign : ∀ (l i k : Nat) (W : World) (K : Act → World → Prop), K (a₁ i k) W → assign.wpIn (Fence.wide.inRound l) (n - 1 - 1) P (Exit.then K (fun _ _ _ => False)) { tmps := (ps.zip (el i k)).foldl (fun t (p, v) => t.setIfInBounds p v) a.tmps, defers := [] } W)
    (hbody : ∀ (l i k : Nat) (W : World), I i W → V i k W → body.wpIn (Fence.wide.inRound l) (n - 1 - 1) P (rPost K (I (i + 1)) Ir W) (a₁ i k) W)
    (hdone : ∀ (D : Nat) (W : World), w.heap.size ≤ D → I m W → W.heap[D]? = some (.deferred (some [])) → Q .normal { a with defers := { target := .collected D, args := #[] } :: a.defers } W)
    (hstop : ∀ (D : Nat) (W : World), w.heap.size ≤ D → Ir W → W.heap[D]? = some (.deferred (some [])) → Code.ret.wpIn Fence.wide n P Q { a with defers := { target := .collected D, args := #[] } :: a.defers } W) :
    (Code.rangeFunc g ps assign body).wpIn Fence.wide n P Q a w := by
 refine wpIn_rangeFunc fun fn hfn => ?_
 obtain ⟨B, hB⟩ : ∃ B, B = w.heap.size := ⟨_, rfl⟩
 -- the loop's record, by its state and what it is left for
 obtain ⟨lp, hlp⟩ : ∃ lp : LoopState → Option Code → Obj, lp = fun s j => .loop { state := s, pending := j, fn := fn, tmps := a.tmps, params := ps, assign := assign, body := body, defers := B } := ⟨_, rfl⟩
 have hcells : ∀ s j, (lp s j).isCells = false := fun s j => by rw [hlp]; rfl
 obtain ⟨W0, hW0⟩ : ∃ W0, W0 = (w.alloc (.deferred (some []))).alloc (lp .ready none) := ⟨_, rfl⟩
 have kW0 : Kp nob w W0 := by rw [hW0]; exact ((Kp.refl nob w).alloc _).alloc _
 have hdef : W0.heap[B]? = some (.deferred (some [])) := by
  rw [hW0, hB]; exact kp_same ((Kp.refl nob _).alloc _) (World.alloc_heap_new w _)
 have hloop : W0.heap[B + 1]? = some (lp .ready none) := by
  have h := World.alloc_heap_new (w.alloc (.deferred (some []))) (lp .ready none)
  rw [World.size_alloc] at h; rw [hW0, hB]; exact h
 refine ⟨B + 1, [{ target := .collected B, args := #[] }], W0, { target := .fn (.func gf) lb, args := #[.func (.yield (B + 1)) #[] #[]] }, W0, gf, #[.func (.yield (B + 1)) #[] #[]] ++ lb, W0, ?_, ?_, fun f' _ => trivial, ?_, fun h => h1, ?_⟩
 · rw [hW0, hlp, hB]; exact run_enterLoop_outer _ _ _ _ _
 · simp only [resolve, hg]
   simp [go_sem]
 · simp [invoke, go_sem, eg]
 -- what is known between two rounds; what is known where a round said 'no more'
 have hbk : ∀ (A : World) (l : Nat) (o' : Obj), l = B + 1 → A.heap[B]? = some (.deferred (some [])) → (A.putObj l o').heap[B]? = some (.deferred (some [])) := fun A l o' e h =>
  (World.putObj_heap_other (by omega)).trans h
 refine (hit (B + 1) (fun i A => I i A ∧ A.heap[B + 1]? = some (lp .ready none) ∧ A.heap[B]? = some (.deferred (some []))) (fun A => Ir A ∧ A.heap[B + 1]? = some (lp .done (some .ret)) ∧ A.heap[B]? = some (.deferred (some []))) W0 kW0
  (fun i A C h k => ⟨hI i A C h.1 k, kp_same k h.2.1, kp_same k h.2.2⟩) (fun A C h k => ⟨hR A C h.1 k, kp_same k h.2.1, kp_same k h.2.2⟩) ?_ ⟨hI 0 w W0 h0 kW0, hloop, hdef⟩).mono ?_
 · rintro i k W1 ⟨hi, hl, hd⟩ hv
   have hl' := hl
   rw [hlp] at hl'
   refine ⟨fn, _, assign, body, run_yield hl' (hps i k), roundIn_of_wpIn hfn (hassign (B + 1) i k W1 _ ⟨_, run_beginRound hl' rfl, ?_⟩)⟩
   have hlt : B + 1 < W1.heap.size := (Array.getElem?_eq_some_iff.1 hl).1
   obtain ⟨W2, hW2⟩ : ∃ W2, W2 = W1.putObj (B + 1) (lp .busy none) := ⟨_, rfl⟩
   have hl2 : W2.heap[B + 1]? = some (lp .busy none) := by rw [hW2]; exact World.putObj_heap_same hlt
   have hd2 : W2.heap[B]? = some (.deferred (some [])) := by rw [hW2]; exact hbk _ _ _ rfl hd
   have k2 : K W1 W2 := by rw [hW2]; exact hKb _ _ _ _ (by omega) hl (hcells _ _)
   have hend : ∀ (j : Option Code) (s : LoopState) (W3 : World), KeepsOthers W2 W3 → s = (if j.isNone then .ready else .done) →
       W3.heap[B + 1]? = some (lp .busy none) ∧ (Instr.endRound (B + 1) j).run P W3 = .ok (.bool j.isNone) (W3.putObj (B + 1) (lp s j)) ∧ (W3.putObj (B + 1) (lp s j)).heap[B + 1]? = some (lp s j) ∧ (W3.putObj (B + 1) (lp s j)).heap[B]? = some (.deferred (some [])) := by
    intro j s W3 ko hs
    have h3 := ko.same _ _ hl2 (hcells _ _)
    have h3' := h3
    rw [hlp] at h3'
    have he := run_endRound (P := P) j h3'
    refine ⟨h3, ?_, World.putObj_heap_same (Array.getElem?_eq_some_iff.1 h3).1, hbk _ _ _ rfl (ko.same _ _ hd2 rfl)⟩
    rw [he, hlp, hs]
   have hb := hbody (B + 1) i k W2 (by rw [hW2]; exact hIo i W1 _ _ _ (by omega) hl (hcells _ _) hi) (by rw [hW2]; exact hV i k W1 _ _ _ hl (hcells _ _) hv)
   have hW2' : W2 = W1.putObj (B + 1) (.loop { state := .busy, pending := none, fn := fn, tmps := a.tmps, params := ps, assign := assign, body := body, defers := B }) := by rw [hW2, hlp]
   rw [← hW2']
   refine wpIn_mono hb ?_
   intro e a3 W3 hp
   cases e with
   | normal =>
     obtain ⟨ko, k3, hi3⟩ := hp
     obtain ⟨h3, h4, h5, h6⟩ := hend none .ready W3 ko rfl
     exact ⟨_, _, h4, .inl ⟨rfl, ⟨hIo _ W3 _ _ _ (by omega) h3 (hcells _ _) hi3, h5, h6⟩, hKt (hKt k2 k3) (hKb _ _ _ _ (by omega) h3 (hcells _ _))⟩⟩
   | ret =>
     obtain ⟨ko, hi3⟩ := hp
     obtain ⟨h3, h4, h5, h6⟩ := hend (some .ret) .done W3 ko rfl
     exact ⟨_, _, h4, .inr ⟨rfl, hRo W3 _ _ _ (by omega) h3 (hcells _ _) hi3, h5, h6⟩⟩
   | exit id => exact hp.elim
   | goto t => exact hp.elim
   | panic c => exact hp.elim
   | outgrown => exact hp.elim
 · rintro e W2 ⟨⟨v, rfl⟩, h | h⟩
   · obtain ⟨hi, hl, hd⟩ := h
     have hl' := hl
     rw [hlp] at hl'
     have he := run_endLoop (P := P) hl' (by simp)
     exact ⟨none, _, he, hdone B _ (by omega) (hIo _ W2 _ _ _ (by omega) hl (hcells _ _) hi) (hbk _ _ _ rfl hd)⟩
   · obtain ⟨hi, hl, hd⟩ := h
     have hl' := hl
     rw [hlp] at hl'
     have he := run_endLoop (P := P) hl' (by simp)
     exact ⟨some .ret, _, he, hstop B _ (by omega) (hRo W2 _ _ _ (by omega) hl (hcells _ _) hi) (hbk _ _ _ rfl hd)⟩
namespace Disk
open Go Go.RowKit Kit
attribute [local go_sem] Oper.semAt_some
theorem slice_from256 (A : Option Addr) (n c i : Nat) (hi : i ≤ n) (w : World) : (Instr.slice 58 (.slice A n c) (some (.int .i64 i)) none none).run Tryz.prog w = .ok (.slice (cutA A c i) (n - i) (c - i)) w :=
 run_slice_from _ 5 u8_under (fun _ => by kernel_rfl) A n c i hi w
theorem u8_szr (w : World) : (sizeOf 5).run Tryz.prog w = .ok 1 w := by kernel_rfl
theorem slice_max256 (A : Option Addr) (n c i j : Nat) (hi : i ≤ j) (hj : j ≤ c) (w : World) : (Instr.slice 58 (.slice A n c) (some (.int .i64 i)) (some (.int .i64 j)) (some (.int .i64 j))).run Tryz.prog w = .ok (.slice (cutA A j i) (j - i) (j - i)) w := by
 have he : Tryz.prog.elem 58 = 5 := by kernel_rfl
 rw [run_slice_lhm w 58 A n c (by kernel_rfl) .i64 .i64 .i64 i j j (by omega) (by omega) (by omega) (by omega), he, u8_szr]
 simp [Result.andThen, sliced, cutA]
def pcw (A : Option Addr) (n k : Nat) : Value := .slice (cutA A (256 * k + min 256 (n - 256 * k)) (256 * k)) (min 256 (n - 256 * k)) (min 256 (n - 256 * k))
theorem chunk_any (A : Option Addr) (n c : Nat) (w : World) :
    Calls Tryz.prog 94 #[.slice A n c, .int .i64 256] w fun e w' => e = .returned (.func (.func 115) #[] #[.pointer (some ⟨w.heap.size, 0, none⟩), .pointer (some ⟨w.heap.size + 1, 0, none⟩)]) ∧ w' = (w.alloc (.cells #[.slice A n c] 58)).alloc (.cells #[.int .i64 256] 3) := by
 go_enter Tryz.func94, Tryz.ntmps94
 go_wp2
 go_ret
 exact ⟨rfl, rfl⟩
theorem chunk_iter (m Bs Bn : Nat) (F : Nat → Prop) (A : Option Addr) (n c : Nat) (hn : n ≤ 140737488355328) (hc : n ≤ c) (hFs : ¬ F Bs) (hFn : ¬ F Bn) (w : World) (cBs : w.cell? ⟨Bs, 0, none⟩ = some (.slice A n c)) (cBn : w.cell? ⟨Bn, 0, none⟩ = some (.int .i64 256)) (ls : Bs < w.heap.size) (ln : Bn < w.heap.size) :
    Iter m Tryz.prog 115 #[.pointer (some ⟨Bs, 0, none⟩), .pointer (some ⟨Bn, 0, none⟩)] (fun i _ => #[pcw A n i]) (fun i _ _ => i < (n + 255) / 256) (Kp F) ((n + 255) / 256) w := by
 intro l J Jx W hW hJ hX hY h0
 have hBs : W.cell? ⟨Bs, 0, none⟩ = some (.slice A n c) := (hW.cell (p := ⟨Bs, 0, none⟩) ls (fun e => e)).trans cBs
 have hBn : W.cell? ⟨Bn, 0, none⟩ = some (.int .i64 256) := (hW.cell (p := ⟨Bn, 0, none⟩) ln (fun e => e)).trans cBn
 have hs1 : Bs < W.heap.size := Nat.lt_of_lt_of_le ls hW.size
 have hs2 : Bn < W.heap.size := Nat.lt_of_lt_of_le ln hW.size
 clear cBs cBn ls ln hW w
 show CallsIn Fence.wide m Tryz.prog 115 #[.func (.yield l) #[] #[], .pointer (some ⟨Bs, 0, none⟩), .pointer (some ⟨Bn, 0, none⟩)] W _
 refine callsIn_of_wp Tryz.func115 rfl trivial ?_ rfl
 simp only [Tryz.ntmps115, List.size_toArray, List.length_cons, List.length_nil, Nat.reduceAdd, Nat.reduceSub, Array.replicate_succ, Array.replicate_zero, List.push_toArray, List.append_toArray, List.nil_append, List.cons_append]
 gi_wp2
 gi_loopw [4] (fun i wr => ∃ k q : Nat, q = 256 * k ∧ q ≤ n + 255 ∧ i = .int .i64 q ∧ J k wr ∧ Kp F W wr)
  (fun i _ => n + 255 - (intOf i).toNat)
 case atStart => exact ⟨0, 0, rfl, Nat.zero_le _, rfl, h0, Kp.refl _ _⟩
 case round =>
  obtain ⟨k, q, hq, hk, rfl, hJs, hnx⟩ := hrel
  have c1 : wr.cell? ⟨Bs, 0, none⟩ = some (.slice A n c) := (hnx.cell (p := ⟨Bs, 0, none⟩) hs1 hFs).trans hBs
  have c2 : wr.cell? ⟨Bn, 0, none⟩ = some (.int .i64 256) := (hnx.cell (p := ⟨Bn, 0, none⟩) hs2 hFn).trans hBn
  have HQ := Lib.hid hq; clear hq
  by_cases hlt : q < n
  · have hsl := slice_from256 A n c q (by omega)
    obtain ⟨e, he⟩ : ∃ e, e = min 256 (n - q) := ⟨_, rfl⟩
    have hmin : (if ((n - q : Nat) : Int) < 256 then ((n - q : Nat) : Int) else 256) = (e : Int) := by
     rcases Nat.lt_or_ge (n - q) 256 with h | h
     · rw [if_pos (by omega), he, Nat.min_eq_right (by omega)]
     · rw [if_neg (by omega), he, Nat.min_eq_left (by omega)]; rfl
    obtain ⟨j, hj⟩ : ∃ j, j = q + e := ⟨_, rfl⟩
    have he2 : e ≤ n - q ∧ e ≤ 256 ∧ 0 < e := by omega
    have e1 : IntKind.i64.wrap ((q : Int) + (e : Int)) = (j : Int) := by rw [IntKind.wrap_i64]; omega
    have hsl2 : ∀ w, (Instr.slice 58 (.slice A n c) (some (.int .i64 q)) (some (.int .i64 j)) (some (.int .i64 j))).run Tryz.prog w = .ok (pcw A n k) w := fun w => by
     rw [slice_max256 A n c q j (by omega) (by omega), pcw, ← HQ.out, ← he, hj, show q + e - q = e by omega]
    have e2 : IntKind.i64.wrap ((q : Int) + 256) = ((q + 256 : Nat) : Int) := by rw [IntKind.wrap_i64]; omega
    have HE := Lib.hid (And.intro he (And.intro hj he2))
    clear he hj he2
    gi_wp2
    refine wpIn_wide.2 ?_
    go_quiet (fail)
    have HK := Lib.hid (hnx.trans ⟨rfl, rfl, rfl, Nat.le_refl _, fun _ _ _ => rfl⟩ (fun _ e => .inl e) : Kp F W (wr.drewN nq))
    have HJ := Lib.hid (hJ _ _ _ hJs (⟨rfl, rfl, rfl, Nat.le_refl _, fun _ _ _ => rfl⟩ : Kp nob wr (wr.drewN nq)))
    have c3 : (wr.drewN nq).cell? ⟨Bs, 0, none⟩ = some (.slice A n c) := c1
    have c4 : (wr.drewN nq).cell? ⟨Bn, 0, none⟩ = some (.int .i64 256) := c2
    have hz1 : Bs < (wr.drewN nq).heap.size := Nat.lt_of_lt_of_le hs1 hnx.size
    have hz2 : Bn < (wr.drewN nq).heap.size := Nat.lt_of_lt_of_le hs2 hnx.size
    clear hmin hsl c1 c2 hnx hJs
    generalize wr.drewN nq = wd at *
    obtain ⟨fn, tmps, assign, body, hy, hR⟩ := hY k 0 wd HJ.out (by have := HQ.out; omega)
    gi_wp2
    refine ⟨(fun h => by cases h), hR.mono ?_⟩
    rintro r W3 (⟨rfl, hJ3, hk3⟩ | ⟨rfl, hJx3⟩)
    · have HK3 := Lib.hid (HK.out.trans hk3 (fun _ e => .inl e))
      have c5 : W3.cell? ⟨Bs, 0, none⟩ = some (.slice A n c) := (hk3.cell (p := ⟨Bs, 0, none⟩) hz1 hFs).trans c3
      have c6 : W3.cell? ⟨Bn, 0, none⟩ = some (.int .i64 256) := (hk3.cell (p := ⟨Bn, 0, none⟩) hz2 hFn).trans c4
      have HJ3 := Lib.hid hJ3
      clear hJ3 hk3 c3 c4
      gi_wp2
      go_roundw
      case rel => exact ⟨k + 1, q + 256, by have := HQ.out; omega, by omega, by go_num, HJ3.out, HK3.out⟩
      case measure => simp [intOf]; omega
    · gi_wp2
      refine bodyPost_ret (results_none rfl _ _ _) rfl ?_
      exact ⟨⟨_, rfl⟩, .inr hJx3⟩
  · have HJ : Hid (J ((n + 255) / 256) wr) := Lib.hid (by rw [show (n + 255) / 256 = k by have := HQ.out; omega]; exact hJs)
    clear hJs
    gi_wp2
    go_end0
    exact ⟨⟨_, rfl⟩, .inl HJ.out⟩
end Disk
end Go.Proofs.YtigdlnfgdjfdoaaGreat
