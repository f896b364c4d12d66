/- Layer 15 (seg): the code's read: the parts of a frame, and its root. -/
import Derived.Test.YtigdlnfgdjfdoaaGreatZK27
set_option maxHeartbeats 4000000
set_option maxRecDepth 100000
set_option linter.unusedVariables false
set_option linter.unusedSimpArgs false
namespace Go.Proofs.YtigdlnfgdjfdoaaGreat
namespace Seg
open Go Go.RowKit Kit
open Rec (Rec good ftot recB sNum_app sText_app)
open Ideal (Ts Thing Ans Arg Args sealT derT hashT leafT rootT zc zc_run zc_length)
open Vault
theorem run_str_bytesC {P : Program} (w : World) (src dst e : TypeId) (s : ByteArray) (hs : P.underlying src = some .string) (hd : P.underlying dst = some (.slice e)) (he : P.underlying e = some (.int .u8)) (hm : s.size ≤ maxLen) :
    ∃ (c : Nat) (w' : World), (convert src dst (.string s)).run P w = .ok (.slice (some ⟨w.heap.size, 0, none⟩) s.size c) w' ∧ Row w' (some ⟨w.heap.size, 0, none⟩) (bvs (sl s)) ∧ Kp Kit.nob w w' ∧ w'.heap.size = w.heap.size + 1 ∧ s.size ≤ c ∧ c ≤ maxLen := by
 obtain ⟨c, w', h1, h2, h3, h4⟩ := run_str_bytes w src dst e s hs hd he
 have h5 := run_bytes_of_string w src dst e s hs hd he
 rw [h1] at h5
 injection h5 with h5 h6
 injection h5 with h7 h8 h9
 subst h9
 exact ⟨_, w', h1, h2, h3, h4, grownCap_ge _ _ _ _, grownCap_le_maxLen _ _ _ _ hm⟩
theorem exec_str_bytesC {P : Program} {w : World} {o : Oper} {a : Act} (src dst e : TypeId) (x : Operand) (ho : o.op = .convert src dst x) (hs : P.underlying src = some .string) (hd : P.underlying dst = some (.slice e)) (he : P.underlying e = some (.int .u8)) (s : ByteArray) (hx : a.eval x = .string s) (hm : s.size ≤ maxLen) :
    ∃ (c : Nat) (w' : World), (execOp a.eval o).run P w = .ok (.value (.slice (some ⟨w.heap.size, 0, none⟩) s.size c)) w' ∧ Row w' (some ⟨w.heap.size, 0, none⟩) (bvs (sl s)) ∧ Kp Kit.nob w w' ∧ w'.heap.size = w.heap.size + 1 ∧ s.size ≤ c ∧ c ≤ maxLen := by
 obtain ⟨c, w', h1, h2⟩ := run_str_bytesC w src dst e s hs hd he hm
 refine ⟨c, w', ?_, h2⟩
 unfold execOp
 simp only [ho, hx, Sem.run_bind, h1, Result.andThen_ok, Sem.run_pure]
theorem wpList_str_bytesC {P : Program} {w : World} {ops : Array Oper} {rest : List Oper} {o : Oper} {a : Act} {Q : Exit → Act → World → Prop} (hw : Region.wanted o (yielded ops a.tmps) = true) (src dst e : TypeId) (x : Operand) (ho : o.op = .convert src dst x)
    (hs : P.underlying src = some .string) (hd : P.underlying dst = some (.slice e)) (he : P.underlying e = some (.int .u8)) (s : List UInt8) (hx : a.eval x = .string (str s)) (hm : s.length ≤ maxLen)
    (h : ∀ c w', Row w' (some ⟨w.heap.size, 0, none⟩) (bvs s) → Kp nob w w' → w'.heap.size = w.heap.size + 1 → s.length ≤ c → c ≤ maxLen → wpList P ops Q rest (a.put o.dst (.slice (some ⟨w.heap.size, 0, none⟩) s.length c)) w') : wpList P ops Q (o :: rest) a w := by
 obtain ⟨c, w', hr, h1, h2, h3, h4, h5⟩ := exec_str_bytesC (P := P) (w := w) (o := o) (a := a) src dst e x ho hs hd he (str s) hx (by rw [str_size]; exact hm)
 rw [sl_str] at h1
 rw [str_size] at hr h4
 exact wpList_gd hw hr (h c w' h1 h2 h3 h4 h5)
theorem make_parts (n : Nat) (hn : n ≤ 260) : ∃ cs : List Value, cs.length = n * 2 ∧ ∀ w, (Instr.makeSlice 166 (.int .i64 (n : Int)) (.int .i64 (n : Int))).run Tryz.prog w = .ok (.slice (some ⟨w.heap.size, 0, none⟩) n n) (w.alloc (.cells cs.toArray 188)) := by
 obtain ⟨i0, hi, hz0, hz1, hz2⟩ := info_parts3 part_info
 refine ⟨(madeCells #[.int .i64 0, .slice none 0 0] (n * 2)).toList, by simp [size_madeCells], fun w => ?_⟩
 have hr := run_make (P := Tryz.prog) w 166 188 i0 _ part_under hi hz0 .i64 .i64 n n (by omega) (by omega) (by rw [hz2]; omega) (by omega)
 rw [hz1, Int.toNat_natCast, show (Value.agg #[.int .i64 0, .slice none 0 0]).cells = #[.int .i64 0, .slice none 0 0] from rfl] at hr
 simpa using hr
theorem exec_make_parts {act : Act} {o : Oper} (x : Operand) (n : Nat) (cs : List Value) (w : World) (hr : (Instr.makeSlice 166 (.int .i64 (n : Int)) (.int .i64 (n : Int))).run Tryz.prog w = .ok (.slice (some ⟨w.heap.size, 0, none⟩) n n) (w.alloc (.cells cs.toArray 188))) (ho : o.op = .makeSlice 166 x x) (hx : act.eval x = .int .i64 (n : Int)) :
    (execOp act.eval o).run Tryz.prog w = .ok (.value (.slice (some ⟨w.heap.size, 0, none⟩) n n)) (w.alloc (.cells cs.toArray 188)) := by
 unfold execOp
 simp only [ho, hx, Sem.run_bind, hr, Result.andThen_ok, Sem.run_pure]
theorem sIn_app (q lo hi : Int) (W : List UInt8) (h : lo ≤ q ∧ q ≤ hi) (h2 : -9223372036854775808 ≤ q ∧ q ≤ 9223372036854775807) : sIn (num8 q ++ W, false) lo hi = (q, (W, false)) := by
 unfold sIn
 rw [sNum_app q W h2, if_neg (by omega)]
structure Fr (ps : List (Int × List UInt8)) (root b : List UInt8) : Prop where
 eq : b = frB b.length ps root
 root : root.length = 32
 len : 48 ≤ b.length ∧ b.length ≤ 16384
 few : 1 ≤ ps.length ∧ ps.length ≤ 260
 ok : ∀ p ∈ ps, (0 ≤ p.1 ∧ p.1 ≤ 16) ∧ p.2.length ≤ 16384
theorem Fr.lenF {ps : List (Int × List UInt8)} {root b : List UInt8} (h : Fr ps root b) : lenF b = b.length := by
 have e : b = num8 (b.length : Nat) ++ (num8 ps.length ++ parB ps ++ root) := by
  conv => lhs; rw [h.eq]
  unfold frB; simp [List.append_assoc]
 have hl : b.length = 8 + (num8 ps.length ++ parB ps ++ root).length := by
  conv => lhs; rw [e]
  rw [List.length_append, num8_length]
 have := lenF_of b.length (num8 ps.length ++ parB ps ++ root) [] hl h.len.1 h.len.2
 rw [List.append_nil, ← e] at this
 exact this
theorem Fr.drop8 {ps : List (Int × List UInt8)} {root b : List UInt8} (h : Fr ps root b) : b.drop 8 = num8 ps.length ++ (parB ps ++ root) := by
 conv => lhs; rw [h.eq]
 unfold frB
 rw [List.append_assoc, List.append_assoc, List.drop_left' (num8_length _)]
theorem Fr.next {ps : List (Int × List UInt8)} {root b : List UInt8} (h : Fr ps root b) {k : Nat} (hk : k < ps.length) : parB (ps.drop k) ++ root = num8 ps[k].1 ++ (textB (str ps[k].2) ++ (parB (ps.drop (k + 1)) ++ root)) := by
 rw [List.drop_eq_getElem_cons hk]
 unfold parB
 rw [List.flatMap_cons, List.append_assoc, List.append_assoc]
structure RdS (w : World) (ps : List (Int × List UInt8)) (root : List UInt8) (k X rb : Nat) (wr : World) (A : Option Addr) (cs : List Value) (gs : List Pt) : Prop where
 i : IsR wr rb A (parB (ps.drop k) ++ root) false
 z : Blk wr X 188 cs
 zl : cs.length = ps.length * 2
 zt : cs.take (k * 2) = gs.flatMap Pt.cells
 two : gs.map Pt.two = ps.take k
 arg : ∀ g ∈ gs, Arg wr nob g.X g.b.length g.c g.b
 far : ∀ g ∈ gs, ∀ j, ab g.X = some j → w.heap.size < j ∧ j ≠ rb ∧ j ≠ X ∧ j < wr.heap.size
 wf : ∀ j, WF rb A j → w.heap.size ≤ j ∧ j ≠ X
 xn : w.heap.size < X
 k : Kp nob w wr
theorem RdS.more {w wr w5 w6 w7 : World} {ps : List (Int × List UInt8)} {root : List UInt8} {k X rb cg : Nat} {A A5 : Option Addr} {cs : List Value} {gs : List Pt} (h : RdS w ps root k X rb wr A cs gs) (hk : k < ps.length)
    (i5 : IsR w5 rb A5 (parB (ps.drop (k + 1)) ++ root) false) (k5 : Kp (oneF rb) wr w5) (hA5 : ab A5 = ab A ∨ ab A5 = none) (k6 : Kp nob w5 w6) (s6 : w6.heap.size = w5.heap.size + 1) (r6 : Row w6 (some ⟨w5.heap.size, 0, none⟩) (bvs ps[k].2)) (hc : ps[k].2.length ≤ cg) (hm : cg ≤ maxLen)
    (b7 : Blk w7 X 188 (splice cs (k * 2) (Pt.cells ⟨ps[k].1, some ⟨w5.heap.size, 0, none⟩, cg, ps[k].2⟩))) (k7 : Kp (oneB X) w6 w7) (s7 : w7.heap.size = w6.heap.size) :
    RdS w ps root (k + 1) X rb w7 A5 (splice cs (k * 2) (Pt.cells ⟨ps[k].1, some ⟨w5.heap.size, 0, none⟩, cg, ps[k].2⟩)) (gs ++ [⟨ps[k].1, some ⟨w5.heap.size, 0, none⟩, cg, ps[k].2⟩]) := by
 have hz := h.zl
 have hX : X < wr.heap.size := h.z.lt
 have hs5 := k5.size
 have hrw := h.i.lt
 have hWF5 : ∀ j, WF rb A5 j → w.heap.size ≤ j ∧ j ≠ X := fun j e => by
  rcases e with e | e
  · exact h.wf j (.inl e)
  · rcases hA5 with e2 | e2
    · rw [e2] at e; exact h.wf j (.inr e)
    · rw [e2] at e; cases e
 have hrX : X ≠ rb := fun e => (h.wf rb (.inl rfl)).2 e.symm
 refine ⟨(i5.keep k6 (fun _ _ e => e)).keep k7 (fun j e e2 => (hWF5 j e).2 e2), b7, ?_, ?_, ?_, fun g hg => ?_, fun g hg j e => ?_, hWF5, h.xn, ?_⟩
 · unfold splice
   simp only [List.length_append, List.length_take, List.length_drop, Pt.cells, List.length_cons, List.length_nil]
   omega
 · have e1 : (cs.take (k * 2)).length = k * 2 := by rw [List.length_take]; omega
   rw [List.flatMap_append, ← h.zt]
   unfold splice
   rw [← List.append_assoc, List.take_left' (by rw [List.length_append, e1]; simp [Pt.cells]; omega)]
   simp
 · rw [List.map_append, h.two, List.take_add_one, List.getElem?_eq_getElem hk]; rfl
 · rcases List.mem_append.1 hg with hg | hg
   · have h1 := h.arg g hg
     refine ⟨h1.len, (((h1.row.keep k5 (fun j e e2 => ?_)).keep0 k6).keep k7 (fun j e e2 => ?_)), h1.far, h1.cap, h1.mx, h1.nil⟩
     · exact (h.far g hg j e).2.1 e2
     · exact (h.far g hg j e).2.2.1 e2
   · rcases List.mem_singleton.1 hg with rfl
     exact ⟨rfl, r6.keep k7 (fun j e e2 => by cases e; have e2 : w5.heap.size = X := e2; omega), .inr (fun j _ e => e), hc, hm, fun e => by cases e⟩
 · rcases List.mem_append.1 hg with hg | hg
   · have h1 := h.far g hg j e
     exact ⟨h1.1, h1.2.1, h1.2.2.1, by omega⟩
   · rcases List.mem_singleton.1 hg with rfl
     cases e
     have h1 := h.k.size
     have h2 := h.xn
     refine ⟨by simp only; omega, by simp only; omega, by simp only; omega, by simp only; omega⟩
 · exact ((h.k.since k5 (fun j e => (h.wf j (.inl e)).1)).trans k6 (fun _ e => e.elim)).since k7 (fun j e => by have e : j = X := e; have := h.xn; omega)
theorem cutK1_none {A : Option Addr} {c k z : Nat} (h : cutK A c k z = none) : A = none := by
 unfold cutK at h
 split at h
 · exact h
 · simpa using h
theorem u8_sizeOf (w : World) : (sizeOf 5).run Tryz.prog w = .ok 1 w := by kernel_rfl
theorem u8_kind : Tryz.prog.underlying 5 = some (.int .u8) := by kernel_rfl
theorem run_arrAt (A : Option Addr) (c : Nat) (w : World) : (Instr.arrayAt 47 (.slice A 32 c)).run Tryz.prog w = .ok (.pointer A) w := by
 have ha : Tryz.prog.underlying 47 = some (.array 32 5) := by kernel_rfl
 unfold Instr.arrayAt
 simp [run_underlying ha, Sem.run_bind, Result.andThen]
theorem exec_arrAt {a : Act} {o : Oper} {w : World} (x : Operand) (A : Option Addr) (c : Nat) (ho : o.op = .sliceToArrayPointer 47 x) (hx : a.eval x = .slice A 32 c) : (execOp a.eval o).run Tryz.prog w = .ok (.value (.pointer A)) w := by
 have h := run_arrAt A c w
 unfold execOp
 simp only [ho, hx, Sem.run_bind, h, Result.andThen_ok, Sem.run_pure]
theorem read_c (ps : List (Int × List UInt8)) (root b : List UInt8) (hfr : Fr ps root b) (A : Option Addr) (n d : Nat) (w : World) (hn : b.length = n) (hr : Row w A (bvs b)) (hA : A = none → d = 0) (hc : n ≤ d) (hm : d ≤ maxLen) :
    Calls Tryz.prog 87 #[.slice A n d] w fun r w' => ∃ (X : Option Addr) (cX : Nat) (gs : List Pt), r = .returned (.tuple #[.slice X ps.length cX, .agg (bvs root).toArray, .bool true]) ∧ gs.map Pt.two = ps ∧ Parts w' (fun i => i < w.heap.size) X gs ∧ Kp nob w w' := by
 have hz := zc_run
 have hb48 := hfr.len
 rw [hn] at hb48
 have HZ := Lib.hid (Blk.new w 47 zc)
 have HK := Lib.hid ((Kp.refl nob w).alloc (.cells zc.toArray 47))
 have HFR := Lib.hid hfr
 have hle := length_c A n d b (w.alloc (.cells zc.toArray 47)) hn (hr.keep0 HK.out) (by omega) hA hc hm
 rw [hfr.lenF, hn] at hle
 have HLE := Lib.hid hle
 have hcut : ∀ w', Kp nob w w' → Row w' (cutK A d 8 1) (bvs (b.drop 8)) := fun w' k' => by
  have h1 := (hr.keep0 k').cutK (c := d) (k := 8) (z := 1) (by rw [bvs_length, hn]; omega)
  rw [bvs, List.map_drop]; exact h1
 have HRD := Lib.hid (fun w' (k' : Kp nob w w') => rRead2 (cutK A d 8 1) (n - 8) (d - 8) (b.drop 8) w' (by rw [List.length_drop, hn]) (by omega) (fun e => by have := hA (cutK1_none e); omega) (hcut w' k'))
 rw [hfr.drop8] at HRD
 have hn8 : 8 ≤ n := by omega
 have hn0 : ((n : Int) == 0) = false := by simp; omega
 have hn1 : decide (n = 0) = false := decide_eq_false (by omega)
 have hd8 : (8 : Int) ≤ (n : Int) := by omega
 clear hle hcut hr hA hm hn hfr hb48
 obtain ⟨N, hN⟩ : ∃ N, N = ps.length := ⟨_, rfl⟩
 rw [← hN]
 have HN := Lib.hid hN
 clear hN
 go_enter Tryz.func87, Tryz.ntmps87
 go_wp2_with (first
  | (go_at_call 86; refine HLE.out.mono ?_; rintro r w1 ⟨rfl, k1⟩; have HK1 := Lib.hid (HK.out.trans k1 (fun _ e => e.elim)); have HZ1 := Lib.hid (HZ.out.keep k1 (fun e => e)); clear k1)
  | (refine wpList_gd (by rfl) (exec_fromK 58 5 1 u8_under u8_sizeOf (.tmp 22) (.const (.int .i64 8)) rfl A n d 8 rfl rfl hn8) ?_)
  | (go_at_call 101; refine (HRD.out w1 HK1.out).mono ?_; rintro r w2 ⟨rb, A2, rfl, h2, k2, h3, h4⟩)
  | fail)
 have hfw := HFR.out.few
 have hin := rIn rb A2 (num8 ps.length ++ (parB ps ++ root), false) 1 260 w2 h2
 rw [sIn_app (ps.length : Int) 1 260 (parB ps ++ root) (by omega) (by omega)] at hin
 have HIN := Lib.hid hin
 have HK2 := Lib.hid (HK1.out.trans k2 (fun _ e => e.elim))
 have HZ2 := Lib.hid (HZ1.out.keep k2 (fun e => e))
 have HW2 := Lib.hid (And.intro h3 h4)
 rw [← HN.out] at hfw HIN
 obtain ⟨cs, hcs, hmk⟩ := make_parts N hfw.2
 have HCS := Lib.hid hcs
 have HMK := Lib.hid hmk
 clear hin k2 h2 h3 h4 hcs hmk
 have hwz : w.heap.size < w2.heap.size := HZ2.out.lt
 go_wp2_with (first
  | (go_at_call 102; refine HIN.out.mono ?_; rintro r w3 ⟨rfl, A3, i3, k3, a3⟩)
  | (refine wpList_gd (by rfl) (exec_make_parts (.tmp 26) N cs _ (HMK.out _) rfl rfl) ?_)
  | fail)
 have s3 := k3.size
 have HWZ : Hid (w.heap.size ≠ rb) := Lib.hid (fun e => by have := HW2.out.1 rb (.inl rfl); have := HZ1.out.lt; omega)
 have HS : Hid (RdS w ps root 0 w3.heap.size rb (w3.alloc (.cells cs.toArray 188)) A3 cs []) := Lib.hid (by
  have hw3 : ∀ j, WF rb A3 j → w1.heap.size ≤ j ∧ j < w3.heap.size := fun j e => by
   rcases e with e | e
   · subst e; exact ⟨HW2.out.1 _ (.inl rfl), i3.lt⟩
   · rcases a3 with e2 | e2
     · rw [e2] at e; exact ⟨HW2.out.1 j (.inr e), by have := HW2.out.2 j (.inr e); omega⟩
     · rw [e2] at e; cases e
  have s1 := HK1.out.size
  refine ⟨?_, Blk.new w3 _ cs, by rw [HCS.out, HN.out], by simp, by simp, fun g hg => (by cases hg), fun g hg => (by cases hg), fun j e => ⟨by have := hw3 j e; omega, by have := hw3 j e; omega⟩, by omega, ((HK2.out.since k3 (fun j e => ?_)).alloc _)⟩
  · rw [List.drop_zero]; exact i3.keep ((Kp.refl nob w3).alloc _) (fun _ _ e => e)
  · have e : j = rb := e
    have := HW2.out.1 rb (.inl rfl)
    omega)
 have HZ3 : Hid (Blk (w3.alloc (.cells cs.toArray 188)) w.heap.size 47 zc) := Lib.hid ((HZ2.out.keep k3 (fun e => by have e : w.heap.size = rb := e; have := HW2.out.1 rb (.inl rfl); have := HZ1.out.lt; omega)).alloc _)
 obtain ⟨X, hX⟩ : ∃ X, X = w3.heap.size := ⟨_, rfl⟩
 obtain ⟨w4, hw4⟩ : ∃ w4, w4 = w3.alloc (.cells cs.toArray 188) := ⟨_, rfl⟩
 rw [← hX, ← hw4] at HS
 rw [← hw4] at HZ3
 rw [← hX, ← hw4]
 clear i3 k3 a3 s3 hX hw4 hwz HIN HMK HCS
 go_loopw [30] (fun i wr => ∃ k : Nat, k ≤ N ∧ i = .int .i64 k ∧ ∃ (A4 : Option Addr) (cs : List Value) (gs : List Pt), RdS w ps root k X rb wr A4 cs gs ∧ Blk wr w.heap.size 47 zc)
  (fun i _ => N - (intOf i).toNat)
 case atStart => exact ⟨0, Nat.zero_le _, rfl, A3, cs, [], HS.out, HZ3.out⟩
 case round =>
  obtain ⟨k, hk, rfl, A4, cs4, gs, hrs, hzr⟩ := hrel
  have HRS := Lib.hid hrs
  have HZR := Lib.hid hzr
  clear hrs hzr
  by_cases hlt : k < N
  · have hkp : k < ps.length := by rw [← HN.out]; exact hlt
    have hok := HFR.out.ok ps[k] (List.getElem_mem hkp)
    have hi4 := HRS.out.i
    rw [HFR.out.next hkp] at hi4
    have hzl := HRS.out.zl
    rw [← HN.out] at hzl
    obtain ⟨W, hW⟩ : ∃ W, W = parB (ps.drop (k + 1)) ++ root := ⟨_, rfl⟩
    obtain ⟨q, hq⟩ : ∃ q, q = ps[k].1 := ⟨_, rfl⟩
    obtain ⟨sb, hsb⟩ : ∃ sb, sb = ps[k].2 := ⟨_, rfl⟩
    rw [← hq, ← hsb, ← hW] at hi4
    rw [← hq, ← hsb] at hok
    have hin := rIn rb A4 (num8 q ++ (textB (str sb) ++ W), false) 0 16 wr hi4
    rw [sIn_app q 0 16 (textB (str sb) ++ W) (by omega) (by omega)] at hin
    have HIN := Lib.hid hin
    have htx := fun w5 A5 (i5 : IsR w5 rb A5 (textB (str sb) ++ W) false) => rText rb A5 (textB (str sb) ++ W, false) 16384 w5 i5
    rw [sText_app sb W 16384 (by omega) (by omega)] at htx
    have HTX := Lib.hid htx
    have HE := Lib.hid (And.intro hW (And.intro hq hsb))
    have hsl : sb.length ≤ 16384 := hok.2
    have HXR := Lib.hid HRS.out.xn
    have HXB : Hid (¬ oneF rb X) := Lib.hid (fun e => (HRS.out.wf rb (.inl rfl)).2 (show rb = X from (show X = rb from e).symm))
    clear hin htx hW hq hsb hi4 hok
    go_wp2_with (first
     | (go_at_call 102; refine HIN.out.mono ?_; rintro r w5 ⟨rfl, A5, i5, k5, a5⟩; have HI5 := Lib.hid (And.intro i5 (And.intro k5 a5)); clear i5 k5 a5)
     | (go_at_call 103; refine (HTX.out w5 A5 HI5.out.1).mono ?_; rintro r w6 ⟨rfl, A6, i6, k6, a6⟩; have HI6 := Lib.hid (And.intro i6 (And.intro k6 a6)); clear i6 k6 a6)
     | (refine wpList_str_bytesC (by rfl) 9 58 5 (.tmp 38) rfl u8_string u8_under u8_kind sb rfl (by simp [maxLen]; omega) ?_; intro cg w7 r7 k7 s7 hc7 hm7; have HR7 := Lib.hid (And.intro r7 (And.intro k7 (And.intro s7 (And.intro hc7 hm7)))); have HB7 := Lib.hid (((HRS.out.z.keep HI5.out.2.1 HXB.out).keep HI6.out.2.1 HXB.out).keep k7 (fun e => e)); clear r7 k7 s7 hc7 hm7)
     | (refine wpList_store_in rfl 188 (.tmp 41) (.tmp 40) rfl X (k * 2) 188 cs4 (Pt.cells ⟨q, some ⟨w6.heap.size, 0, none⟩, cg, sb⟩) HB7.out rfl rfl (by rw [hzl]; simp [Pt.cells]; omega) (by simp only [Pt.cells, List.length_cons, List.length_nil]; kernel_rfl) (fun u hu => by unfold Pt.cells at hu; simp only [List.mem_cons, List.not_mem_nil, or_false] at hu; rcases hu with rfl | rfl <;> rfl) ?_; intro w8 b8 k8 s8)
     | fail)
    have hq := HE.out.2.1
    have hsb := HE.out.2.2
    have hi6 := HI6.out.1
    rw [HE.out.1] at hi6
    have hk56 : Kp (oneF rb) wr w6 := HI5.out.2.1.trans HI6.out.2.1 (fun _ e => .inl e)
    have ha56 : ab A6 = ab A4 ∨ ab A6 = none := by
     rcases HI6.out.2.2 with e | e
     · rcases HI5.out.2.2 with e2 | e2
       · exact .inl (e.trans e2)
       · exact .inr (e.trans e2)
     · exact .inr e
    subst hq hsb
    have HNX := Lib.hid (HRS.out.more hkp hi6 hk56 ha56 HR7.out.2.1 HR7.out.2.2.1 HR7.out.1 HR7.out.2.2.2.1 HR7.out.2.2.2.2 b8 k8 s8)
    have HZN : Hid (Blk w8 w.heap.size 47 zc) := Lib.hid (((HZR.out.keep hk56 (fun e => by have e : w.heap.size = rb := e; exact HWZ.out e)).keep HR7.out.2.1 (fun e => e)).keep k8 (fun e => by have e : w.heap.size = X := e; have := HXR.out; omega))
    clear b8 k8 s8 hk56 ha56 hi6
    go_wp2
    go_roundw
    case rel => exact ⟨k + 1, by omega, by go_num, A6, _, _, HNX.out, HZN.out⟩
    case measure => simp [intOf]; omega
  · obtain rfl : k = N := by omega
    have hd0 : ps.drop k = [] := List.drop_of_length_le (by rw [← HN.out]; exact Nat.le_refl _)
    have hi4 := HRS.out.i
    rw [hd0, show parB [] ++ root = root ++ [] by unfold parB; simp] at hi4
    have hrt := HFR.out.root
    have htk := rTake rb A4 (root ++ [], false) 32 wr hi4 (by rw [List.append_nil, hrt]; omega)
    unfold TakePost at htk
    rw [sTake_app root [] 32 (by rw [hrt]; rfl)] at htk
    rw [hrt] at htk
    have HTK := Lib.hid htk
    have HRT := Lib.hid hrt
    have htw : gs.map Pt.two = ps := by
     have := HRS.out.two
     rw [List.take_of_length_le (by rw [← HN.out]; exact Nat.le_refl _)] at this; exact this
    have HTW := Lib.hid htw
    clear hd0 hi4 hrt htk htw
    go_wp2_with fail
    refine HTK.out.mono ?_
    rintro r w5 ⟨A5, c5, rfl, ho5, hf5, A6, i6, k6, a6⟩
    have HEN := Lib.hid (rEnd rb A6 ([], false) w5 i6)
    have hrow5 : Row w5 A5 (bvs root) := ho5.row
    have HR5 := Lib.hid (And.intro hrow5 hf5)
    have HK5 := Lib.hid k6
    clear ho5 hf5 i6 k6 a6 hrow5
    go_wp2_with (first
     | (go_at_call 105; refine HEN.out.mono ?_; rintro r w6 ⟨rfl, rfl⟩)
     | fail)
    obtain ⟨g5, o5, rfl, hlt5, hc5⟩ : ∃ g o, A5 = some ⟨g, o, none⟩ ∧ g < w5.heap.size ∧ w5.rangeAt g o (bvs root) := by
     rcases HR5.out.1 with e | ⟨g, o, h1, h2, h3⟩
     · exfalso; have := congrArg List.length e; rw [bvs_length, HRT.out] at this; simp at this
     · exact ⟨g, o, h1, h2, h3⟩
    have hg5 : wr.heap.size ≤ g5 := HR5.out.2 g5 rfl
    refine reg_begin (fun w' => w'.rangeAt g5 o5 (bvs root)) (by kernel_rfl) hc5 (fun hS6 => ?_)
    refine reg_tk (v := .slice (some ⟨X, 0, none⟩) k k) 0 52 rfl rfl (by kernel_rfl) (by rfl) hS6 (fun w' hw => by go_simp) ?_; simp only [Act.put, zp1, zp2, zp3]
    refine reg_tk (v := .slice (some ⟨g5, o5, none⟩) 32 c5) 1 53 rfl rfl (by kernel_rfl) (by rfl) hS6 (fun w' hw => by go_simp) ?_; simp only [Act.put, zp1, zp2, zp3]
    refine reg_tk (v := .pointer (some ⟨g5, o5, none⟩)) 2 54 rfl rfl (by kernel_rfl) (by rfl) hS6 (fun w' hw => exec_arrAt (.tmp 53) _ c5 rfl rfl) ?_; simp only [Act.put, zp1, zp2, zp3]
    refine reg_load 3 (some 55) 47 (.tmp 54) rfl rfl rfl (by kernel_rfl) (by kernel_rfl) (by kernel_rfl) (by rfl) hS6 g5 o5 rfl (bvs root) _ (fun w hw => hw) rarr_under rfl (rarr_size root HRT.out) ?_; simp only [Act.put, zp1, zp2, zp3]
    refine reg_tk (v := .slice (some ⟨X, 0, none⟩) k k) 4 2 rfl rfl (by kernel_rfl) (by rfl) hS6 (fun w' hw => by go_simp) ?_; simp only [Act.put, zp1, zp2, zp3]
    have HZ6 := Lib.hid ((HZR.out.keep HK5.out (fun e => by have e : w.heap.size = rb := e; exact HWZ.out e)).keep (Kp.refl nob _).drew (fun e => e))
    refine reg_store 5 none 47 (.tmp 3) (.tmp 55) rfl rfl rfl (by kernel_rfl) (by rfl) w.heap.size 47 zc (bvs root) HZ6.out rfl rfl (by rw [bvs_length, HRT.out, zc_length]) (rarr_size root HRT.out) (bvs_one _) ?_
    intro w7 hB7 k7 z7
    have hS7 : w7.rangeAt g5 o5 (bvs root) := fun j v hv => by
     have hne : ¬ (g5 = w.heap.size) := by have := HRS.out.k.size; have := HZR.out.lt; omega
     rw [k7.cell (p := ⟨g5, o5 + j, none⟩) hlt5 hne]
     exact hS6 j v hv
    refine ⟨hS7, fun _ => ?_⟩
    simp only [Act.put, zp1, zp2, zp3]
    refine reg_tk (v := .bool true) 6 4 rfl rfl (by kernel_rfl) (by rfl) hS7 (fun w' hw => by go_simp) ?_; simp only [Act.put, zp1, zp2, zp3]
    refine reg_end (by kernel_rfl) ?_
    have HB7 := Lib.hid hB7
    have kd : Kp (oneF rb) wr w5.drew := HK5.out.drew
    have hKW : Kp nob w w7 := ((HRS.out.k.since kd (fun j e => (HRS.out.wf j (.inl e)).1)).since k7 (fun j e => by have e : j = w.heap.size := e; omega))
    have hXrb : ¬ oneF rb X := fun e => (HRS.out.wf rb (.inl rfl)).2 (show rb = X from (show X = rb from e).symm)
    have hXw : ¬ (X = w.heap.size) := by have := HRS.out.xn; omega
    have hbx := (HRS.out.z.keep kd hXrb).keep k7 hXw
    have hcs4 : cs4 = gs.flatMap Pt.cells := by
     rw [← HRS.out.zt, List.take_of_length_le (by rw [HRS.out.zl, ← HN.out]; exact Nat.le_refl _)]
    have hpt : Parts w7 (fun i => i < w.heap.size) (some ⟨X, 0, none⟩) gs := by
     refine ⟨by rw [← hcs4]; exact hbx.row, .inr (fun j e => by cases e; have := HRS.out.xn; show ¬ (X < w.heap.size); omega), fun g hg => ?_⟩
     have h1 := HRS.out.arg g hg
     have h2 := HRS.out.far g hg
     exact ⟨h1.len, (h1.row.keep kd (fun j e e2 => (h2 j e).2.1 e2)).keep k7 (fun j e e2 => by have e2 : j = w.heap.size := e2; have := (h2 j e).1; omega), .inr (fun j e e2 => by have := (h2 j e).1; have e2 : j < w.heap.size := e2; omega), h1.cap, h1.mx, h1.nil⟩
    have HFI := Lib.hid (And.intro hKW hpt)
    have hkN := HN.out
    clear hB7 k7 z7 hS7 hS6 kd hKW hXrb hXw hbx hcs4 hpt
    go_wp2
    exact bodyPost_ret (results_mid rfl _ _ w.heap.size _ _ _ rfl HB7.out rarr_under rfl (rarr_size root HRT.out) _ _ rfl rfl) rfl ⟨some ⟨X, 0, none⟩, k, gs, rfl, HTW.out, HFI.out.2, HFI.out.1⟩
end Seg
end Go.Proofs.YtigdlnfgdjfdoaaGreat
