/- Lemmas: AppK RecA RecSa SegP VauA0 VauA. -/
import Derived.Test.YtigdlnfgdjfdoaaGreatZK04
import Derived.Deep.QuietTactic
import Derived.BigQuiet
import Derived.StillTailTactics
import Derived.RegionTactic
set_option maxHeartbeats 4000000
set_option maxRecDepth 100000
set_option linter.unusedVariables false
set_option linter.unusedSimpArgs false
namespace Go.Proofs.YtigdlnfgdjfdoaaGreat
namespace Kit
open Go Go.RowKit
theorem exec_app {P : Program} {w w' : World} {a : Act} {o : Oper} {v : Value} (s x : Operand) (t : TypeId) (ho : o.op = .call { callee := .builtin .append, args := #[s, x], argTypes := #[t, t] }) (vs vx : Value) (hs : a.eval s = vs) (hx : a.eval x = vx)
    (hr : (Builtin.append_ #[t, t] o.type #[vs, vx]).run P w = .ok v w') : (execOp a.eval o).run P w = .ok (.value v) w' := by
 subst hs; subst hx
 unfold execOp
 simp only [ho, resolve, invoke, builtin, Sem.run_bind, Sem.run_pure, Result.andThen_ok, List.map_toArray, List.map_cons, List.map_nil, hr]
theorem run_appKO {P : Program} (w : World) (t ty : TypeId) (k : Nat) (hk : 0 < k) (e : TypeId) (i : TypeInfo) (z : Value) (bytes : Nat) (ht : P.underlying t = some (.slice e)) (hi : P.info? e = some i) (hz : i.zero = some z)
    (hsize : i.size = k) (hby : i.bytes = bytes) (hzs : z.cells.size = k)
    (A : Option Addr) (n c : Nat) (xs : List Value) (hown : OwnK k e w A n c xs)
    (B : Option Addr) (m d : Nat) (ys : List Value) (hB : B = none → m = 0) (hm : ys.length = m * k) (hrow : Row w B ys) (h1 : ∀ u ∈ ys, u.oneCell' = true)
    (hbytes : (n + m) * bytes ≤ 140737488355328) (hmx : n + m ≤ maxLen) : ∃ A' c' w', (Builtin.append_ #[t, t] ty #[.slice A n c, .slice B m d]).run P w = .ok (.slice A' (n + m) c') w' ∧ OwnK k e w' A' (n + m) c' (xs ++ ys) ∧ w.grownBy w' (ab A) ∧ (ab A' = ab A ∨ ab A' = some w.heap.size) := by
 cases B with
 | none =>
   have hd := hB rfl
   subst hd
   have hy : ys = [] := List.eq_nil_of_length_eq_zero (by simpa using hm)
   subst hy
   have hc := hown.cap.1
   refine ⟨A, c, w, ?_, by simpa using hown, World.grownBy.refl _ _, .inl rfl⟩
   cases A <;> simp [Builtin.append_, run_underlying ht, sizeOf, typeInfo, hi, Builtin.lenOf, Builtin.firstCells, hc, storeCells]
 | some ad => exact run_appK w t ty k hk e i z bytes ht hi hz hsize hby hzs A n c xs hown ad m d ys hm hrow h1 hbytes hmx
theorem run_appEmpty {P : Program} (w : World) (t ty : TypeId) (k : Nat) (hk : 0 < k) (e : TypeId) (i : TypeInfo) (z : Value) (bytes : Nat) (ht : P.underlying t = some (.slice e)) (hi : P.info? e = some i) (hz : i.zero = some z)
    (hsize : i.size = k) (hby : i.bytes = bytes) (hzs : z.cells.size = k)
    (g : Nat) (hg : OwnK k e w (some ⟨g, 0, none⟩) 0 0 [])
    (B : Option Addr) (m d : Nat) (ys : List Value) (hB : B = none → m = 0) (hm : ys.length = m * k) (hrow : Row w B ys)
    (hbytes : m * bytes ≤ 140737488355328) (hmx : m ≤ maxLen) : ∃ A' c' w', (Builtin.append_ #[t, t] ty #[.slice (some ⟨g, 0, none⟩) 0 0, .slice B m d]).run P w = .ok (.slice A' m c') w' ∧ OwnK k e w' A' m c' ys ∧ Kp nob w w' ∧ (ab A' = some g ∨ ab A' = some w.heap.size) := by
 by_cases h0 : m = 0
 · subst h0
   have hy : ys = [] := List.eq_nil_of_length_eq_zero (by simpa using hm)
   subst hy
   refine ⟨some ⟨g, 0, none⟩, 0, w, ?_, hg, Kp.refl _ _, .inl rfl⟩
   cases B <;> simp [Builtin.append_, run_underlying ht, sizeOf, typeInfo, hi, Builtin.lenOf, Builtin.firstCells, storeCells, loadCells, loadCellsFrom, Result.andThen]
 · obtain ⟨ad, rfl⟩ : ∃ ad, B = some ad := by
     cases B with
     | none => exact absurd (hB rfl) h0
     | some ad => exact ⟨ad, rfl⟩
   have hnews : ∀ j u, ys[j]? = some u → w.cell? (ad.add j) = some u := by
    intro j u hu
    rcases hrow with rfl | ⟨b, o', h, _, hcell⟩
    · simp at hu
    · cases h
      have := hcell j u hu
      by_cases hj : j = 0 <;> simpa [Addr.add, hj] using this
   have hr := run_append_grow (P := P) w t ty e i z ht hi hz ⟨g, 0, none⟩ 0 0 [] (by simp) (fun j v h => by simp at h) ad m d ys (by rw [hsize]; exact hm) hnews (by omega) (by simp only [maxLen] at hmx; omega) (growslice_fits (by simp only [maxLen] at hmx; omega) (by rw [hby]; simpa using hbytes))
   have hge := grownCap_ge w (0 + m) 0 e
   have hcm : grownCap w (0 + m) 0 e ≤ maxLen := grownCap_le_maxLen w (0 + m) 0 e (by omega)
   rw [Nat.zero_add] at hr hge hcm
   refine ⟨some ⟨w.heap.size, 0, none⟩, _, _, hr, ⟨hm, .inr ⟨w.heap.size, _, _, rfl, Nat.zero_le _, heap_alloc_new w.drew _, hge, hcm, ?_, ?_⟩⟩, (Kp.refl nob w).drew.alloc _, .inr rfl⟩
   · simp only [Array.size_append, List.size_toArray, size_zeroCells, hzs, List.length_nil, hm]
     rw [Nat.zero_add, ← Nat.add_mul]
     congr 1
     omega
   · simp only [Array.toList_append, List.nil_append]
     rw [← hm]
     simp
section
variable {P : Program} {md : Region.Mode} {ops : Array Oper} {Q : Exit → Act → World → Prop} {S : World → Prop}
end
theorem wpList_appKO_gd {P : Program} (w : World) {ops : Array Oper} {rest : List Oper} {o : Oper} {a : Act} {Q : Exit → Act → World → Prop} (s x : Operand) (t : TypeId)
    (ho : o.op = .call { callee := .builtin .append, args := #[s, x], argTypes := #[t, t] }) (hw : Region.wanted o (yielded ops a.tmps) = true)
    (k : Nat) (hk : 0 < k) (e : TypeId) (i : TypeInfo) (z : Value) (bytes : Nat) (ht : P.underlying t = some (.slice e)) (hi : P.info? e = some i) (hz : i.zero = some z)
    (hsize : i.size = k) (hby : i.bytes = bytes) (hzs : z.cells.size = k)
    (A : Option Addr) (n c : Nat) (xs : List Value) (hs : a.eval s = .slice A n c) (hown : OwnK k e w A n c xs)
    (B : Option Addr) (m d : Nat) (ys : List Value) (hx : a.eval x = .slice B m d) (hB : B = none → m = 0) (hm : ys.length = m * k) (hrow : Row w B ys) (h1 : ∀ u ∈ ys, u.oneCell' = true)
    (hbytes : (n + m) * bytes ≤ 140737488355328) (hmx : n + m ≤ maxLen)
    (h : ∀ A' c' w', OwnK k e w' A' (n + m) c' (xs ++ ys) → w.grownBy w' (ab A) → (ab A' = ab A ∨ ab A' = some w.heap.size) → wpList P ops Q rest (a.put o.dst (.slice A' (n + m) c')) w') : wpList P ops Q (o :: rest) a w := by
 obtain ⟨A', c', w', hr, h2, h3, h4⟩ := run_appKO (P := P) w t o.type k hk e i z bytes ht hi hz hsize hby hzs A n c xs hown B m d ys hB hm hrow h1 hbytes hmx
 exact wpList_gd hw (exec_app s x t ho _ _ hs hx hr) (h A' c' w' h2 h3 h4)
theorem wpList_appEmpty_gd {P : Program} (w : World) {ops : Array Oper} {rest : List Oper} {o : Oper} {a : Act} {Q : Exit → Act → World → Prop} (s x : Operand) (t : TypeId)
    (ho : o.op = .call { callee := .builtin .append, args := #[s, x], argTypes := #[t, t] }) (hw : Region.wanted o (yielded ops a.tmps) = true)
    (k : Nat) (hk : 0 < k) (e : TypeId) (i : TypeInfo) (z : Value) (bytes : Nat) (ht : P.underlying t = some (.slice e)) (hi : P.info? e = some i) (hz : i.zero = some z)
    (hsize : i.size = k) (hby : i.bytes = bytes) (hzs : z.cells.size = k)
    (g : Nat) (hs : a.eval s = .slice (some ⟨g, 0, none⟩) 0 0) (hg : OwnK k e w (some ⟨g, 0, none⟩) 0 0 [])
    (B : Option Addr) (m d : Nat) (ys : List Value) (hx : a.eval x = .slice B m d) (hB : B = none → m = 0) (hm : ys.length = m * k) (hrow : Row w B ys)
    (hbytes : m * bytes ≤ 140737488355328) (hmx : m ≤ maxLen)
    (h : ∀ A' c' w', OwnK k e w' A' m c' ys → Kp nob w w' → (ab A' = some g ∨ ab A' = some w.heap.size) → wpList P ops Q rest (a.put o.dst (.slice A' m c')) w') : wpList P ops Q (o :: rest) a w := by
 obtain ⟨A', c', w', hr, h2, h3, h4⟩ := run_appEmpty (P := P) w t o.type k hk e i z bytes ht hi hz hsize hby hzs g hg B m d ys hB hm hrow hbytes hmx
 exact wpList_gd hw (exec_app s x t ho _ _ hs hx hr) (h A' c' w' h2 h3 h4)
end Kit
namespace Rec
open Go Go.RowKit Kit
theorem Rrow.rng {w : World} {A : Option Addr} {rs : List Rec} (h : Rrow w A rs) {i : Nat} (hi : i < rs.length) : ∃ b o, A = some ⟨b, o, none⟩ ∧ w.rangeAt b (o + i * 6) (rcells rs[i]) := by
 rcases h with h | ⟨b, o, rfl, hb, hc⟩
 · have := congrArg List.length h
   rw [fm_length (k := 6) rs (fun a _ => rcells_length a)] at this
   simp only [List.length_nil] at this; omega
 · refine ⟨b, o, rfl, fun j u hu => ?_⟩
   have hj : j < 6 := by have := (List.getElem?_eq_some_iff.1 hu).1; rw [rcells_length] at this; exact this
   have e := fm_at (k := 6) rs (fun a _ => rcells_length a) i j rs[i] (List.getElem?_eq_getElem hi) hj
   rw [hu] at e
   rw [Nat.add_assoc]
   exact hc _ _ e
theorem rec_under : Tryz.prog.underlying 67 = some (.struct (Tryz.prog.fieldsOf 67)) := by kernel_rfl
structure Sr where
 A : Option Addr
 n : Nat
 c : Nat
 rs : List Rec
def Sr.v (s : Sr) : Value := .slice s.A s.n s.c
structure SrOk (w : World) (s : Sr) : Prop where
 len : s.rs.length = s.n
 row : Rrow w s.A s.rs
 cap : s.n ≤ s.c
 mx : s.c ≤ maxLen
 nil : s.A = none → s.c = 0
 lt : ∀ i, ab s.A = some i → i < w.heap.size
theorem SrOk.keep {w w2 : World} {s : Sr} {F : Nat → Prop} (h : SrOk w s) (k : Kp F w w2) (hF : ∀ i, ab s.A = some i → ¬ F i) : SrOk w2 s := ⟨h.len, Row.keep h.row k hF, h.cap, h.mx, h.nil, fun i e => Nat.lt_of_lt_of_le (h.lt i e) k.size⟩
theorem SrOk.keep0 {w w2 : World} {s : Sr} (h : SrOk w s) (k : Kp nob w w2) : SrOk w2 s := h.keep k (fun _ _ e => e)
theorem rec_info : ∃ i, Tryz.prog.info? 67 = some i ∧ i.zero = some (.agg #[.int .i64 0, .int .i64 0, .int .i64 0, .int .i64 0, .int .i64 0, .string ⟨#[]⟩]) ∧ i.size = 6 ∧ i.bytes = 56 := info_parts3 (by kernel_rfl)
theorem rsl_info : ∃ i, Tryz.prog.info? 29 = some i ∧ i.zero = some (.slice none 0 0) ∧ i.size = 1 ∧ i.bytes = 24 := info_parts3 (by kernel_rfl)
theorem recs_und : Tryz.prog.underlying 29 = some (.slice 67) := by kernel_rfl
theorem recss_und : Tryz.prog.underlying 108 = some (.slice 29) := by kernel_rfl
theorem rcs_len (rs : List Rec) : (rs.flatMap rcells).length = rs.length * 6 := fm_length (k := 6) rs (fun a _ => rcells_length a)
theorem rcs_one (rs : List Rec) : ∀ u ∈ rs.flatMap rcells, u.oneCell' = true := by
 intro u hu
 obtain ⟨r, _, h⟩ := List.mem_flatMap.1 hu
 exact rcells_one r u h
theorem exec_rec0 {a : Act} {o : Oper} {w : World} (ho : o.op = .buildSlice 29 0 #[]) :
    (execOp a.eval o).run Tryz.prog w = .ok (.value (.slice (some ⟨w.heap.size, 0, none⟩) 0 0)) (w.alloc (.cells #[] 67)) := by
 have h : (Instr.buildSlice 29 0 #[]).run Tryz.prog w = .ok (.slice (some ⟨w.heap.size, 0, none⟩) 0 0) (w.alloc (.cells #[] 67)) := by kernel_rfl
 unfold execOp
 simp [ho, h, Result.andThen]
theorem exec_recOne {a : Act} {o : Oper} {w : World} (x : Operand) (r : Rec) (ho : o.op = .buildSlice 29 1 #[(0, x)]) (hx : a.eval x = .agg (rcells r).toArray) :
    (execOp a.eval o).run Tryz.prog w = .ok (.value (.slice (some ⟨w.heap.size, 0, none⟩) 1 1)) (w.alloc (.cells (rcells r).toArray 67)) := by
 have h : (Instr.buildSlice 29 1 #[(0, .agg (rcells r).toArray)]).run Tryz.prog w = .ok (.slice (some ⟨w.heap.size, 0, none⟩) 1 1) (w.alloc (.cells (rcells r).toArray 67)) := by kernel_rfl
 unfold execOp
 simp [ho, hx, h, Result.andThen]
end Rec
namespace Vault
open Go Go.RowKit Kit
def vcells (mk : Value) (ms : List UInt8) (lim m cl : Nat) : List Value := mk :: (bvs ms ++ [.int .i64 (lim : Nat), .map (some m), .int .i64 (cl : Nat)])
theorem vcells_length (mk : Value) (ms : List UInt8) (lim m cl : Nat) (h : ms.length = 32) : (vcells mk ms lim m cl).length = 36 := by simp [vcells, bvs, h]
theorem vcells_at (mk : Value) (ms : List UInt8) (lim m cl i : Nat) (h : ms.length = 32) : (vcells mk ms lim m cl)[33 + i]? = ([.int .i64 (lim : Nat), .map (some m), .int .i64 (cl : Nat)] : List Value)[i]? := by
 rw [vcells, show 33 + i = (32 + i) + 1 by omega, List.getElem?_cons_succ, List.getElem?_append_right (by rw [bvs_length, h]; omega), bvs_length, h]
 congr 1; omega
theorem vcells_ms (mk : Value) (ms : List UInt8) (lim m cl : Nat) (i : Nat) (v : Value) (hv : (bvs ms)[i]? = some v) : (vcells mk ms lim m cl)[1 + i]? = some v := by
 rw [vcells, Nat.add_comm, List.getElem?_cons_succ, List.getElem?_append_left (List.getElem?_eq_some_iff.1 hv).1]; exact hv
theorem vcells_cl (mk : Value) (ms : List UInt8) (lim m cl cl' : Nat) (h : ms.length = 32) : (vcells mk ms lim m cl).set 35 (.int .i64 (cl' : Nat)) = vcells mk ms lim m cl' := by
 rw [vcells, show 35 = 34 + 1 from rfl, List.set_cons_succ, List.set_append_right _ _ (by rw [bvs_length, h]; omega), bvs_length, h]; rfl
structure Pl where
 val : List UInt8
 property : val.length = 44
deriving DecidableEq
theorem Pl.same {a b : Pl} (h : a.1 = b.1) : a = b := by
 obtain ⟨a, ha⟩ := a
 obtain ⟨b, hb⟩ := b
 simp only at h
 subst h; rfl
def pl (k n : List UInt8) (hk : k.length = 32) (hn : n.length = 12) : Pl := ⟨k ++ n, by simp [hk, hn]⟩
def pv (p : Pl) : Value := .agg (bvs p.1).toArray
structure Vb (w : World) (v m : Nat) (mk : Value) (ms : List UInt8) (lim : Nat) (ps : List (Value × Value)) (cl : Nat) : Prop where
 b : Blk w v 101 (vcells mk ms lim m cl)
 l : ms.length = 32
 s : MapB w m ps
 ne : v ≠ m
theorem Vb.keep {w w2 : World} {v m : Nat} {mk : Value} {ms : List UInt8} {lim : Nat} {ps : List (Value × Value)} {cl : Nat} {F : Nat → Prop} (h : Vb w v m mk ms lim ps cl) (k : Kp F w w2) (hv : ¬ F v) (hm : ¬ F m) : Vb w2 v m mk ms lim ps cl :=
 ⟨h.b.keep k hv, h.l, h.s.keep k hm, h.ne⟩
theorem Vb.keep0 {w w2 : World} {v m : Nat} {mk : Value} {ms : List UInt8} {lim : Nat} {ps : List (Value × Value)} {cl : Nat} (h : Vb w v m mk ms lim ps cl) (k : Kp nob w w2) : Vb w2 v m mk ms lim ps cl := h.keep k (fun e => e) (fun e => e)
theorem Vb.mk_ {w : World} {v m : Nat} {mk : Value} {ms : List UInt8} {lim : Nat} {ps : List (Value × Value)} {cl : Nat} (h : Vb w v m mk ms lim ps cl) : w.cell? ⟨v, 0, none⟩ = some mk := by rw [h.b.cell]; rfl
theorem Vb.lim_ {w : World} {v m : Nat} {mk : Value} {ms : List UInt8} {lim : Nat} {ps : List (Value × Value)} {cl : Nat} (h : Vb w v m mk ms lim ps cl) : w.cell? ⟨v, 33, none⟩ = some (.int .i64 (lim : Nat)) := by rw [h.b.cell]; exact vcells_at mk ms lim m cl 0 h.l
theorem Vb.map_ {w : World} {v m : Nat} {mk : Value} {ms : List UInt8} {lim : Nat} {ps : List (Value × Value)} {cl : Nat} (h : Vb w v m mk ms lim ps cl) : w.cell? ⟨v, 34, none⟩ = some (.map (some m)) := by rw [h.b.cell]; exact vcells_at mk ms lim m cl 1 h.l
theorem Vb.cl_ {w : World} {v m : Nat} {mk : Value} {ms : List UInt8} {lim : Nat} {ps : List (Value × Value)} {cl : Nat} (h : Vb w v m mk ms lim ps cl) : w.cell? ⟨v, 35, none⟩ = some (.int .i64 (cl : Nat)) := by rw [h.b.cell]; exact vcells_at mk ms lim m cl 2 h.l
theorem Vb.ms_ {w : World} {v m : Nat} {mk : Value} {ms : List UInt8} {lim : Nat} {ps : List (Value × Value)} {cl : Nat} (h : Vb w v m mk ms lim ps cl) : w.rangeAt v 1 (bvs ms) := fun j u hu => by rw [h.b.cell]; exact vcells_ms mk ms lim m cl j u hu
def refu (lim : Nat) (e s : Int) : Int := if e < 0 ∨ s < 0 then 1 else if 4294967296 ≤ e ∨ (lim : Int) ≤ s then 10 else 0
theorem refused_any (v m : Nat) (mk : Value) (ms : List UInt8) (lim : Nat) (ps : List (Value × Value)) (cl : Nat) (e s : Int) (w : World) (h : Vb w v m mk ms lim ps cl) :
    Calls Tryz.prog 124 #[.pointer (some ⟨v, 0, none⟩), .int .i64 e, .int .i64 s] w fun x w' => x = .returned (.int .i64 (refu lim e s)) ∧ w = w' := by
 have hc := h.lim_
 clear h
 obtain ⟨L, hL⟩ : ∃ L : Int, L = (lim : Int) := ⟨_, rfl⟩
 unfold refu
 rw [← hL] at hc ⊢
 clear hL
 by_cases h1 : e < 0
 · rw [if_pos (.inl h1)]
   go_enter Tryz.func124, Tryz.ntmps124
   go_wp2
   go_ret
   exact ⟨rfl, rfl⟩
 · by_cases h2 : s < 0
   · rw [if_pos (.inr h2)]
     go_enter Tryz.func124, Tryz.ntmps124
     go_wp2
     go_ret
     exact ⟨rfl, rfl⟩
   · rw [if_neg (by rintro (h | h) <;> contradiction)]
     by_cases h3 : 4294967296 ≤ e
     · rw [if_pos (.inl h3)]
       go_enter Tryz.func124, Tryz.ntmps124
       go_wp2
       go_ret
       exact ⟨rfl, rfl⟩
     · by_cases h4 : L ≤ s
       · rw [if_pos (.inr h4)]
         go_enter Tryz.func124, Tryz.ntmps124
         go_wp2
         go_ret
         exact ⟨rfl, rfl⟩
       · rw [if_neg (by rintro (h | h) <;> contradiction)]
         go_enter Tryz.func124, Tryz.ntmps124
         go_wp2
         go_ret
         exact ⟨rfl, rfl⟩
end Vault
end Go.Proofs.YtigdlnfgdjfdoaaGreat
