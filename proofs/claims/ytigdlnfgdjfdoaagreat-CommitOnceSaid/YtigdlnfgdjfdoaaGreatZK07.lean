/- Lemmas: BlkG Still IdealT0 IdealX IdealN App. -/
import Derived.Test.YtigdlnfgdjfdoaaGreatZK04
import Derived.StillTailTactics
import Derived.BigQuiet
import Derived.Deep.QuietTactic
import Derived.RegionTactic
import Derived.Lib.AppendZerosOnto
import Derived.Orders
set_option maxHeartbeats 4000000
set_option maxRecDepth 100000
set_option linter.unusedVariables false
set_option linter.unusedSimpArgs false
namespace Go.Proofs.YtigdlnfgdjfdoaaGreat
namespace Kit
open Go Go.RowKit
theorem wpList_load_gd {P : Program} {ops : Array Oper} {rest : List Oper} {op : Oper} {a : Act} {w : World} {Q : Exit → Act → World → Prop} (ty : TypeId) (x : Operand) (ho : op.op = .load ty x)
    (hw : Region.wanted op (yielded ops a.tmps) = true)
    (g : Nat) (t : TypeId) (cs : List Value) (hB : Blk w g t cs) (hx : a.eval x = .pointer (some ⟨g, 0, none⟩)) (d : TypeDesc) (hu : P.underlying ty = some d) (hd : d.isRow = true) (hi : (P.info? ty).map (·.size) = some cs.length)
    (h : wpList P ops Q rest (a.put op.dst (.agg cs.toArray)) w) : wpList P ops Q (op :: rest) a w :=
 wpList_step fun K hK => by
  rw [if_pos hw]
  exact wp_load_mid ty x ho g 0 hx cs d hB.range hu hd hi (hK _ _ h)
theorem wpStill_load {P : Program} {ops : Array Oper} {w : World} {Q : Act → Prop} {a : Act} {o : Oper} {rest : List Oper} (hgd : o.guard = none) (ty : TypeId) (x : Operand) (ho : o.op = .load ty x) (p v : Value) (hx : a.eval x = p)
    (hr : (Instr.loadAt ty p).run P w = .ok v w) (h : wpStill P ops w Q rest (a.put o.dst v)) : wpStill P ops w Q (o :: rest) a :=
 wpStill_step fun K hK => by
  rw [if_pos (by simp [Region.wanted, hgd])]
  have e : (execOp a.eval o).run P w = .ok (.value v) w := by
   unfold execOp
   simp only [ho, hx, Sem.run_bind, hr, Result.andThen_ok, Sem.run_pure]
  unfold Oper.still
  rw [e, Oper.stillUpon_value]
  exact hK _ h
end Kit
namespace Ideal
open Go Go.RowKit Kit
theorem u8i_under : Tryz.prog.underlying 58 = some (.slice 5) := by kernel_rfl
def tc (t : Thing) : List Value := [bv t.kind, .string (str t.a), .string (str t.b), .string (str t.c), .string (str t.d)]
theorem tc_one (t : Thing) : ∀ u ∈ tc t, u.oneCell' = true := by
 intro u hu
 simp only [tc, List.mem_cons, List.not_mem_nil, or_false] at hu
 rcases hu with rfl | rfl | rfl | rfl | rfl <;> rfl
theorem thing_beq (t u : Thing) : decide (t = u) = (t.kind == u.kind && (t.a == u.a && (t.b == u.b && (t.c == u.c && t.d == u.d)))) := by
 obtain ⟨k, a, b, c, d⟩ := t
 obtain ⟨k', a', b', c', d'⟩ := u
 rw [Bool.eq_iff_iff]
 simp
def cv (t : Thing) : Value := .agg (tc t).toArray
theorem cv_inj (a b : Thing) (h : cv a = cv b) : a = b := by
 obtain ⟨k, x, y, z, d⟩ := a
 obtain ⟨k', x', y', z', d'⟩ := b
 have h2 : tc ⟨k, x, y, z, d⟩ = tc ⟨k', x', y', z', d'⟩ := by
  have := congrArg (fun v => match v with | Value.agg cs => cs.toList | _ => []) h
  simpa [cv] using this
 simp only [tc, bv, List.cons.injEq, Value.string.injEq, and_true, str_inj, Value.int.injEq, true_and] at h2
 obtain ⟨h0, h1, h2, h3, h4⟩ := h2
 rw [h1, h2, h3, h4, UInt8.toNat_inj.1 (by omega : k.toNat = k'.toNat)]
theorem beq_str (a : List UInt8) : (str a == str a) = true := by show ByteArray.beq _ _ = true; simp [ByteArray.beq, str]
theorem cthing_under : Tryz.prog.underlying 242 = some (.struct (Tryz.prog.fieldsOf 242)) := by kernel_rfl
theorem eqC (t u : Thing) (w : World) : (Op.equalIn 10000 242 (cv t) (cv u)).run Tryz.prog w = .ok (decide (t = u)) w := by
 unfold cv
 rw [run_equalIn_struct w 9999 242 _ _ (by kernel_rfl) (by kernel_rfl), thing_beq]
 simp only [tc, bv]
 go_simp
 have hk : ((t.kind.toNat : Int) = (u.kind.toNat : Int)) = (t.kind = u.kind) := propext ⟨fun h => UInt8.toNat_inj.1 (by omega), fun h => by rw [h]⟩
 simp only [str_toList, hk]
 by_cases h1 : t.kind = u.kind
 · by_cases h2 : t.a = u.a
   · by_cases h3 : t.b = u.b
     · by_cases h4 : t.c = u.c
       · by_cases h5 : t.d = u.d <;> simp [h1, h2, h3, h4, h5]
       · simp [h1, h2, h3, h4]
     · simp [h1, h2, h3]
   · simp [h1, h2]
 · simp [h1]
theorem thing_keys : KeyL Tryz.prog 242 cv :=
 keyL_of_equal cthing_under (fun w a b => eqC a b w) cv_inj (fun w em a => by kernel_rfl) (fun a => by simp [cv, tc, bv, Instr.sameBits, beq_str])
theorem int_keys : KeyL Tryz.prog 3 (fun n : Int => .int .i64 n) := keyL_int (by kernel_rfl)
def nps (cs : List Thing) : List (Value × Value) := cs.zipIdx.map fun p => (cv p.1, .int .i64 ((p.2 : Int) + 1))
theorem nps_length (cs : List Thing) : (nps cs).length = cs.length := by simp [nps]
theorem nps_keys (cs : List Thing) : ∀ p ∈ nps cs, ∃ a, p.1 = cv a := by
 intro p hp
 obtain ⟨q, _, rfl⟩ := List.mem_map.1 hp
 exact ⟨q.1, rfl⟩
theorem nps_mem (cs : List Thing) (i : Nat) (t : Thing) (h : cs[i]? = some t) : (cv t, Value.int .i64 ((i : Int) + 1)) ∈ nps cs :=
 List.mem_map.2 ⟨(t, i), List.mem_zipIdx_iff_getElem?.2 h, rfl⟩
theorem nps_one (cs : List Thing) (i : Nat) (t : Thing) (h : cs[i]? = some t) (hn : cs.Nodup) (u : Value) (hu : (cv t, u) ∈ nps cs) : u = .int .i64 ((i : Int) + 1) := by
 obtain ⟨q, hq, e⟩ := List.mem_map.1 hu
 injection e with e1 e2
 have hq := List.mem_zipIdx_iff_getElem?.1 hq
 rw [cv_inj _ _ e1] at hq
 have hi := (List.getElem?_eq_some_iff.1 h).1
 have := (List.getElem?_inj hi hn).1 (h.trans hq.symm)
 rw [← e2, this]
theorem nps_not (cs : List Thing) (t : Thing) (h : t ∉ cs) : ∀ p ∈ nps cs, p.1 ≠ cv t := by
 intro p hp e
 obtain ⟨q, hq, rfl⟩ := List.mem_map.1 hp
 have hq := List.mem_zipIdx_iff_getElem?.1 hq
 exact h (by rw [← cv_inj _ _ e]; exact List.mem_of_getElem? hq)
theorem nps_snoc (cs : List Thing) (t : Thing) : nps (cs ++ [t]) = nps cs ++ [(cv t, .int .i64 ((cs.length : Int) + 1))] := by
 simp [nps, List.zipIdx_append]
structure Sps (cs : List Thing) (U : Thing → Prop) (ps : List (Value × Value)) : Prop where
 all : ∀ q ∈ ps, ∃ (i : Nat) (t : Thing), cs[i]? = some t ∧ t.kind = 83 ∧ q = (.int .i64 ((i : Int) + 1), cv t)
 has : ∀ (i : Nat) (t : Thing), cs[i]? = some t → t.kind = 83 → U t → (.int .i64 ((i : Int) + 1), cv t) ∈ ps
theorem Sps.keys {cs : List Thing} {U : Thing → Prop} {ps : List (Value × Value)} (h : Sps cs U ps) : ∀ p ∈ ps, ∃ a : Int, p.1 = .int .i64 a := fun p hp => by
 obtain ⟨i, t, _, _, rfl⟩ := h.all p hp
 exact ⟨_, rfl⟩
theorem Sps.one {cs : List Thing} {U : Thing → Prop} {ps : List (Value × Value)} (h : Sps cs U ps) (i : Nat) (t : Thing) (hi : cs[i]? = some t) (u : Value) (hu : (Value.int .i64 ((i : Int) + 1), u) ∈ ps) : u = cv t := by
 obtain ⟨j, x, hj, _, e⟩ := h.all _ hu
 injection e with e1 e2
 injection e1 with _ e1
 have : i = j := by omega
 subst this
 rw [hi] at hj
 rw [e2, Option.some.inj hj]
structure Cx (w : World) (p bn bs : Nat) (cs : List Thing) (U : Thing → Prop) : Prop where
 b : Blk w p 121 [.map (some bn), .map (some bs)]
 n : MapB w bn (nps cs)
 s : ∃ ps, MapB w bs ps ∧ Sps cs U ps
 ne : p ≠ bn ∧ p ≠ bs ∧ bn ≠ bs
 nd : cs.Nodup
 sm : ∀ t ∈ cs, t.kind = 83 → t.d.length ≤ 1048576
def Cf (p bn bs : Nat) : Nat → Prop := fun k => k = p ∨ k = bn ∨ k = bs
theorem Cx.keep {w w2 : World} {p bn bs : Nat} {G : Nat → Prop} {cs : List Thing} {U : Thing → Prop} (h : Cx w p bn bs cs U) (k : Kp G w w2) (hF : ∀ i, Cf p bn bs i → ¬ G i) : Cx w2 p bn bs cs U :=
 ⟨h.b.keep k (hF _ (.inl rfl)), h.n.keep k (hF _ (.inr (.inl rfl))), let ⟨ps, h1, h2⟩ := h.s; ⟨ps, h1.keep k (hF _ (.inr (.inr rfl))), h2⟩, h.ne, h.nd, h.sm⟩
theorem Cx.keep0 {w w2 : World} {p bn bs : Nat} {cs : List Thing} {U : Thing → Prop} (h : Cx w p bn bs cs U) (k : Kp nob w w2) : Cx w2 p bn bs cs U := h.keep k (fun _ _ e => e)
theorem Cx.lt {w : World} {p bn bs : Nat} {cs : List Thing} {U : Thing → Prop} (h : Cx w p bn bs cs U) : ∀ k, Cf p bn bs k → k < w.heap.size := by
 rintro k (rfl | rfl | rfl)
 · exact h.b.lt
 · exact h.n.lt
 · obtain ⟨ps, h1, _⟩ := h.s; exact h1.lt
theorem Cx.imp {w : World} {p bn bs : Nat} {cs : List Thing} {U V : Thing → Prop} (h : Cx w p bn bs cs U) (hV : ∀ t ∈ cs, t.kind = 83 → V t → U t) : Cx w p bn bs cs V :=
 ⟨h.b, h.n, let ⟨ps, h1, h2⟩ := h.s; ⟨ps, h1, h2.all, fun i t hi hk hv => h2.has i t hi hk (hV t (List.mem_of_getElem? hi) hk hv)⟩, h.ne, h.nd, h.sm⟩
theorem num_of_at (cs : List Thing) (t : Thing) (i : Nat) (hn : cs.Nodup) (h : cs[i]? = some t) : num cs t = i + 1 := by
 have hm : num cs t ≠ 0 := fun e => (num_none cs t).1 e (List.mem_of_getElem? h)
 have h2 := num_at cs t hm
 have := (List.getElem?_inj (List.getElem?_eq_some_iff.1 h).1 hn).1 (h.trans h2.symm)
 omega
theorem map_under : Tryz.prog.underlying 118 = some (.map 242 3) := by kernel_rfl
theorem smap_under : Tryz.prog.underlying 119 = some (.map 3 242) := by kernel_rfl
theorem number_old (p bn bs : Nat) (cs : List Thing) (t : Thing) (w0 : World) (hw : Cx w0 p bn bs cs (fun _ => True)) (ht : t ∈ cs) :
    Calls Tryz.prog 161 #[.pointer (some ⟨p, 0, none⟩), .agg (tc t).toArray] w0 fun e w' => e = .returned (.int .i64 (num cs t : Nat)) ∧ Kp nob w0 w' := by
 obtain ⟨i, hi, he⟩ := List.mem_iff_getElem.1 ht
 have hit : cs[i]? = some t := by rw [List.getElem?_eq_getElem hi, he]
 have HN := Lib.hid (num_of_at cs t i hw.nd hit)
 have HW := Lib.hid hw
 have HK := Lib.hid (((Kp.refl nob w0).alloc (.cells (tc t).toArray 242)).drew)
 have HT := Lib.hid (show Blk ((w0.alloc (.cells (tc t).toArray 242)).drew) w0.heap.size 242 (tc t) from Blk.new w0 _ _)
 have HLK := Lib.hid ((hw.keep0 HK.out).n.look_has thing_keys (nps_keys cs) map_under t _ (nps_mem cs i t hit) (fun u hu => nps_one cs i t hit hw.nd u hu))
 have hc : ((w0.alloc (.cells (tc t).toArray 242)).drew).cell? ⟨p, 0, none⟩ = some (.map (some bn)) := by rw [(hw.keep0 HK.out).b.cell]; rfl
 go_enter Tryz.func161, Tryz.ntmps161
 clear hw ht hi he hit
 go_wp2
 generalize hw1 : (w0.alloc (.cells (tc t).toArray 242)).drew = w1 at *
 refine reg_begin (fun w2 => w2 = w1) (by kernel_rfl) hw1 (fun _ => ?_)
 rw [hw1]
 refine reg_tk (v := .pointer (some ⟨p, 0, none⟩)) 0 8 rfl rfl (by kernel_rfl) (by rfl) rfl (fun w hw => by go_simp) ?_; simp only [Act.put, zp1, zp2, zp3]
 refine reg_tk (v := .pointer (some ⟨p, 0, none⟩)) 1 9 rfl rfl (by kernel_rfl) (by rfl) rfl (fun w hw => by go_simp) ?_; simp only [Act.put, zp1, zp2, zp3]
 refine reg_tk (v := .pointer (some ⟨p, 0, none⟩)) 2 10 rfl rfl (by kernel_rfl) (by rfl) rfl (fun w hw => by go_simp) ?_; simp only [Act.put, zp1, zp2, zp3]
 refine reg_tk (v := .map (some bn)) 3 11 rfl rfl (by kernel_rfl) (by rfl) rfl (fun w hw => by rw [hw]; go_simp) ?_; simp only [Act.put, zp1, zp2, zp3]
 refine reg_load 4 (some 12) 242 (.tmp 3) rfl rfl rfl (by kernel_rfl) (by kernel_rfl) (by kernel_rfl) (by rfl) rfl (w0.heap.size) 0 rfl (tc t) _ (fun w hw => by rw [hw]; exact HT.out.range) cthing_under rfl (by kernel_rfl) ?_; simp only [Act.put, zp1, zp2, zp3]
 refine reg_tk (v := .tuple #[.int .i64 ((i : Int) + 1), .bool true]) 5 13 rfl rfl (by kernel_rfl) (by rfl) rfl (fun w hw => by rw [hw]; exact exec_look (.tmp 11) (.tmp 12) 118 true rfl _ _ _ rfl rfl HLK.out) ?_; simp only [Act.put, zp1, zp2, zp3]
 refine reg_tk (v := .tuple #[.int .i64 ((i : Int) + 1), .bool true]) 6 7 rfl rfl (by kernel_rfl) (by rfl) rfl (fun w hw => by go_simp) ?_; simp only [Act.put, zp1, zp2, zp3]
 refine reg_tk (v := .int .i64 ((i : Int) + 1)) 7 14 rfl rfl (by kernel_rfl) (by rfl) rfl (fun w hw => by go_simp) ?_; simp only [Act.put, zp1, zp2, zp3]
 refine reg_tk (v := .bool true) 8 15 rfl rfl (by kernel_rfl) (by rfl) rfl (fun w hw => by go_simp) ?_; simp only [Act.put, zp1, zp2, zp3]
 refine reg_tk (v := .int .i64 ((i : Int) + 1)) 9 5 rfl rfl (by kernel_rfl) (by rfl) rfl (fun w hw => by go_simp) ?_; simp only [Act.put, zp1, zp2, zp3]
 refine reg_tk (v := .bool true) 10 6 rfl rfl (by kernel_rfl) (by rfl) rfl (fun w hw => by go_simp) ?_; simp only [Act.put, zp1, zp2, zp3]
 refine reg_end (by kernel_rfl) ?_
 go_wp2
 go_ret
 exact ⟨by rw [HN.out]; rfl, HK.out⟩
theorem Cx.more {w w2 : World} {p bn bs : Nat} {cs : List Thing} {t : Thing} (h : Cx w p bn bs cs (fun _ => True)) (ht : t ∉ cs) (hd : t.kind = 83 → t.d.length ≤ 1048576) (hm : MapB w2 bn (nps cs ++ [(cv t, .int .i64 ((cs.length : Int) + 1))])) (k : Kp (fun i => i = bn) w w2) : Cx w2 p bn bs (cs ++ [t]) (fun u => u ∈ cs) := by
 refine ⟨h.b.keep k h.ne.1, by rw [nps_snoc]; exact hm, ?_, h.ne, ?_, ?_⟩
 · obtain ⟨ps, h1, h2⟩ := h.s
   refine ⟨ps, h1.keep k (fun e => h.ne.2.2 e.symm), ⟨fun q hq => ?_, fun i x hi hk hx => ?_⟩⟩
   · obtain ⟨i, x, hi, hk, e⟩ := h2.all q hq
     exact ⟨i, x, by rw [List.getElem?_append_left (List.getElem?_eq_some_iff.1 hi).1]; exact hi, hk, e⟩
   · rw [List.getElem?_append] at hi
     split at hi
     · exact h2.has i x hi hk trivial
     · rename_i hlt
       have hx1 : x = t := by
        have : i - cs.length = 0 := by
         rcases Nat.eq_zero_or_pos (i - cs.length) with h0 | h0
         · exact h0
         · rw [List.getElem?_eq_none (by simp; omega)] at hi; cases hi
        rw [this] at hi
        exact (Option.some.inj (by simpa using hi : some t = some x)).symm
       exact absurd (hx1 ▸ hx) ht
 · rw [List.nodup_append]
   exact ⟨h.nd, by simp, fun a ha b hb e => ht (by rw [← List.mem_singleton.1 hb, ← e]; exact ha)⟩
 · intro u hu hk
   rcases List.mem_append.1 hu with hu | hu
   · exact h.sm u hu hk
   · obtain rfl := List.mem_singleton.1 hu; exact hd hk
theorem number_new (p bn bs : Nat) (cs : List Thing) (t : Thing) (w0 : World) (hw : Cx w0 p bn bs cs (fun _ => True)) (hl : cs.length ≤ 100000) (ht : t ∉ cs) (hd : t.kind = 83 → t.d.length ≤ 1048576) :
    Calls Tryz.prog 161 #[.pointer (some ⟨p, 0, none⟩), .agg (tc t).toArray] w0 fun e w' => e = .returned (.int .i64 ((cs.length + 1 : Nat) : Int)) ∧ Cx w' p bn bs (cs ++ [t]) (fun u => u ∈ cs) ∧ Kp (fun i => i = bn) w0 w' := by
 have HW := Lib.hid hw
 have HK := Lib.hid (((Kp.refl nob w0).alloc (.cells (tc t).toArray 242)).drew)
 have HT := Lib.hid (show Blk ((w0.alloc (.cells (tc t).toArray 242)).drew) w0.heap.size 242 (tc t) from Blk.new w0 _ _)
 have hz : (zeroValue 3).run Tryz.prog ((w0.alloc (.cells (tc t).toArray 242)).drew) = .ok (.int .i64 0) ((w0.alloc (.cells (tc t).toArray 242)).drew) := by kernel_rfl
 have HLK := Lib.hid ((hw.keep0 HK.out).n.look_not thing_keys (nps_keys cs) map_under hz t (nps_not cs t ht))
 have hlen := (hw.keep0 HK.out).n.len map_under 3
 rw [nps_length] at hlen
 obtain ⟨w9, hs1, hs2, hs3, hs4⟩ := (hw.keep0 (HK.out.drew)).n.store_new thing_keys (nps_keys cs) map_under t (.int .i64 ((cs.length : Int) + 1)) (nps_not cs t ht)
 have hc : ((w0.alloc (.cells (tc t).toArray 242)).drew).cell? ⟨p, 0, none⟩ = some (.map (some bn)) := by rw [(hw.keep0 HK.out).b.cell]; rfl
 have hadd : IntKind.i64.wrap ((cs.length : Int) + 1) = (cs.length : Int) + 1 := by rw [IntKind.wrap_i64]; omega
 have HM := Lib.hid ((hw.keep0 HK.out.drew).more ht hd hs2 hs3)
 have HS := Lib.hid hs1
 have HKK := Lib.hid ((HK.out.drew.nob (fun i => i = bn)).trans hs3 (fun i e => .inl e))
 have H9 : Hid (w9.cell? ⟨p, 0, none⟩ = some (.map (some bn)) ∧ Blk w9 w0.heap.size 242 (tc t)) := Lib.hid ⟨by rw [HM.out.b.cell]; rfl, (HT.out.keep (Kp.refl nob _).drew (fun e => e)).keep hs3 (fun e => by have := hw.lt bn (.inr (.inl rfl)); omega)⟩
 have HT2 := Lib.hid (show Blk ((w0.alloc (.cells (tc t).toArray 242)).drew.drew) w0.heap.size 242 (tc t) from Blk.new w0 _ _)
 go_enter Tryz.func161, Tryz.ntmps161
 clear hw ht hd hs1 hs2 hs3 hs4 hz
 go_wp2
 generalize hw1 : (w0.alloc (.cells (tc t).toArray 242)).drew = w1 at *
 refine reg_begin (fun w2 => w2 = w1) (by kernel_rfl) hw1 (fun _ => ?_)
 rw [hw1]
 refine reg_tk (v := .pointer (some ⟨p, 0, none⟩)) 0 8 rfl rfl (by kernel_rfl) (by rfl) rfl (fun w hw => by go_simp) ?_; simp only [Act.put, zp1, zp2, zp3]
 refine reg_tk (v := .pointer (some ⟨p, 0, none⟩)) 1 9 rfl rfl (by kernel_rfl) (by rfl) rfl (fun w hw => by go_simp) ?_; simp only [Act.put, zp1, zp2, zp3]
 refine reg_tk (v := .pointer (some ⟨p, 0, none⟩)) 2 10 rfl rfl (by kernel_rfl) (by rfl) rfl (fun w hw => by go_simp) ?_; simp only [Act.put, zp1, zp2, zp3]
 refine reg_tk (v := .map (some bn)) 3 11 rfl rfl (by kernel_rfl) (by rfl) rfl (fun w hw => by rw [hw]; go_simp) ?_; simp only [Act.put, zp1, zp2, zp3]
 refine reg_load 4 (some 12) 242 (.tmp 3) rfl rfl rfl (by kernel_rfl) (by kernel_rfl) (by kernel_rfl) (by rfl) rfl (w0.heap.size) 0 rfl (tc t) _ (fun w hw => by rw [hw]; exact HT.out.range) cthing_under rfl (by kernel_rfl) ?_; simp only [Act.put, zp1, zp2, zp3]
 refine reg_tk (v := .tuple #[.int .i64 0, .bool false]) 5 13 rfl rfl (by kernel_rfl) (by rfl) rfl (fun w hw => by rw [hw]; exact exec_look (.tmp 11) (.tmp 12) 118 true rfl _ _ _ rfl rfl HLK.out) ?_; simp only [Act.put, zp1, zp2, zp3]
 refine reg_tk (v := .tuple #[.int .i64 0, .bool false]) 6 7 rfl rfl (by kernel_rfl) (by rfl) rfl (fun w hw => by go_simp) ?_; simp only [Act.put, zp1, zp2, zp3]
 refine reg_tk (v := .int .i64 0) 7 14 rfl rfl (by kernel_rfl) (by rfl) rfl (fun w hw => by go_simp) ?_; simp only [Act.put, zp1, zp2, zp3]
 refine reg_tk (v := .bool false) 8 15 rfl rfl (by kernel_rfl) (by rfl) rfl (fun w hw => by go_simp) ?_; simp only [Act.put, zp1, zp2, zp3]
 refine reg_tk (v := .int .i64 0) 9 5 rfl rfl (by kernel_rfl) (by rfl) rfl (fun w hw => by go_simp) ?_; simp only [Act.put, zp1, zp2, zp3]
 refine reg_tk (v := .bool false) 10 6 rfl rfl (by kernel_rfl) (by rfl) rfl (fun w hw => by go_simp) ?_; simp only [Act.put, zp1, zp2, zp3]
 refine reg_end (by kernel_rfl) ?_
 go_wp2
 have HSS : Hid ((fun w2 : World => w2.cell? ⟨p, 0, none⟩ = some (.map (some bn)) ∧ Blk w2 w0.heap.size 242 (tc t)) w1.drew) := Lib.hid ⟨hc, HT2.out⟩
 refine reg_begin (fun w2 : World => w2.cell? ⟨p, 0, none⟩ = some (.map (some bn)) ∧ Blk w2 w0.heap.size 242 (tc t)) (by kernel_rfl) HSS.out (fun _ => ?_)
 refine reg_tk (v := .pointer (some ⟨p, 0, none⟩)) 0 24 rfl rfl (by kernel_rfl) (by rfl) HSS.out (fun w hw => by go_simp) ?_; simp only [Act.put, zp1, zp2, zp3]
 refine reg_tk (v := .pointer (some ⟨p, 0, none⟩)) 1 25 rfl rfl (by kernel_rfl) (by rfl) HSS.out (fun w hw => by go_simp) ?_; simp only [Act.put, zp1, zp2, zp3]
 refine reg_tk (v := .pointer (some ⟨p, 0, none⟩)) 2 26 rfl rfl (by kernel_rfl) (by rfl) HSS.out (fun w hw => by go_simp) ?_; simp only [Act.put, zp1, zp2, zp3]
 refine reg_tk (v := .map (some bn)) 3 27 rfl rfl (by kernel_rfl) (by rfl) HSS.out (fun w hw => by have hw0 := hw.1; go_simp) ?_; simp only [Act.put, zp1, zp2, zp3]
 refine reg_load 4 (some 28) 242 (.tmp 3) rfl rfl rfl (by kernel_rfl) (by kernel_rfl) (by kernel_rfl) (by rfl) HSS.out (w0.heap.size) 0 rfl (tc t) _ (fun w hw => hw.2.range) cthing_under rfl (by kernel_rfl) ?_; simp only [Act.put, zp1, zp2, zp3]
 refine reg_tk (v := .int .i64 ((cs.length : Int) + 1)) 5 29 rfl rfl (by kernel_rfl) (by rfl) HSS.out (fun w hw => by go_simp) ?_; simp only [Act.put, zp1, zp2, zp3]
 refine reg_update 6 none (.tmp 27) (.tmp 28) (.tmp 29) 118 rfl rfl rfl (by kernel_rfl) (by rfl) _ _ _ rfl rfl rfl HS.out H9.out (fun _ => ?_)
 simp only [Act.put, zp1, zp2, zp3]
 refine reg_end (by kernel_rfl) ?_
 go_wp2
 go_ret
 exact ⟨rfl, HM.out, HKK.out⟩
theorem number_any (p bn bs : Nat) (cs : List Thing) (t : Thing) (w0 : World) (hw : Cx w0 p bn bs cs (fun _ => True)) (hl : cs.length ≤ 100000) (hd : t.kind = 83 → t.d.length ≤ 1048576) :
    Calls Tryz.prog 161 #[.pointer (some ⟨p, 0, none⟩), .agg (tc t).toArray] w0 fun e w' => e = .returned (.int .i64 (num (mk cs t) t : Nat)) ∧ Cx w' p bn bs (mk cs t) (fun u => u ∈ cs) ∧ Kp (fun i => i = bn) w0 w' := by
 by_cases ht : t ∈ cs
 · rw [mk_old cs t ht]
   refine (number_old p bn bs cs t w0 hw ht).mono ?_
   rintro e w' ⟨rfl, k⟩
   exact ⟨rfl, (hw.keep0 k).imp (fun _ _ _ _ => trivial), k.nob _⟩
 · rw [num_new cs t ht, mk_new cs t ht]
   exact number_new p bn bs cs t w0 hw hl ht hd
end Ideal
namespace Kit
open Go Go.RowKit
theorem zeroCells_u8 (k : Nat) : Builtin.zeroCells (Value.int .u8 0).cells k = (bvs (List.replicate k 0)).toArray := by
 apply Array.ext
 · simp [Builtin.zeroCells, bvs, Value.cells]
 · intro i h1 h2
   simp [Builtin.zeroCells, bvs, bv, Value.cells, Nat.mod_one]
theorem run_appZero {P : Program} (w : World) (t tn ty e : TypeId) (i : TypeInfo) (kq kn : IntKind) (ht : P.underlying t = some (.slice e)) (htn : P.underlying tn = some (.int kn)) (hi : P.info? e = some i) (hz : i.zero = some (.int .u8 0))
    (hsize : i.size = 1) (hby : i.bytes = 1) (A : Option Addr) (n c : Nat) (xs : List Value) (hown : Own e w A n c xs) (k : Nat) (h63 : n + k ≤ 140737488355328) :
    ∃ A' c' w', (Builtin.append_ #[t, tn] ty #[.slice A n c, .int kq k]).run P w = .ok (.slice A' (n + k) c') w' ∧ Own e w' A' (n + k) c' (xs ++ bvs (List.replicate k 0)) ∧ w.grownBy w' (ab A) ∧ (ab A' = ab A ∨ ab A' = some w.heap.size) := by
 have hxl := hown.len
 have hcap := hown.cap
 have hmx : n + k ≤ maxLen := by unfold maxLen; omega
 have hw : IntKind.i64.wrap (k : Int) = k := by rw [IntKind.wrap_i64]; omega
 have hneg : ¬ ((k : Int) < 0) := by omega
 have hbig : ¬ (281474976710656 < (k : Int)) := by omega
 have hlen : (xs ++ bvs (List.replicate k 0)).length = (n + k) * 1 := by rw [List.length_append, hxl, bvs_length, List.length_replicate, Nat.mul_one]
 by_cases h0 : k = 0
 · subst h0
   refine ⟨A, c, w, ?_, by simpa [bvs] using hown, World.grownBy.refl _ _, .inl rfl⟩
   have hc := hcap.1
   have hw0 : IntKind.i64.wrap 0 = 0 := rfl
   cases A <;> simp [Builtin.append_, run_underlying ht, run_underlying htn, sizeOf, typeInfo, hi, hsize, hby, asInt, asIntOf, hw0, hc, storeCells]
 · by_cases hroom : n + k ≤ c
   · rcases hown.2 with ⟨h1, h2⟩ | ⟨g, cap, cur, h1, hbg, hg, hnc, hcm, hcs, htake⟩
     · injection h1 with _ _ h3; omega
     · injection h1 with h1 _ h3
       subst h1; subst h3
       have hcs' : cur.size = c := by simpa using hcs
       have hst := run_storeCells_at P g n e (bvs (List.replicate k 0)) 0 cur w hg (by simp; omega) (bvs_one _)
       simp only [Nat.add_zero, bvs_length, List.length_replicate] at hst
       have hzc : (Builtin.zeroCells #[Value.int IntKind.u8 0] k).toList = bvs (List.replicate k 0) := by
        have := zeroCells_u8 k
        simp only [Value.cells] at this
        rw [this]
       refine ⟨some ⟨g, 0, none⟩, c, w.setRow g (cur.toList.take n ++ bvs (List.replicate k 0) ++ cur.toList.drop (n + k)).toArray, ?_, ⟨hlen, .inr ⟨g, c, _, rfl, hbg, setRow_heap w g cur _ e _ hg, hroom, hcm, ?_, ?_⟩⟩, ⟨rfl, rfl, rfl, by simp, fun j _ hj => setRow_other w g j _ (fun e => hj (by simp [ab, e]))⟩, .inl rfl⟩
       · simp [Builtin.append_, run_underlying ht, run_underlying htn, sizeOf, typeInfo, zeroValue, hi, hsize, hby, hz, asInt, asIntOf, hw, hneg, hbig, h0, hroom, Addr.add_lit, Value.cells, hzc, hst]
       · simp only [List.size_toArray, List.length_append, List.length_take, List.length_drop, Array.length_toList, bvs_length, List.length_replicate]
         omega
       · have ht' : cur.toList.take n = xs := by simpa using htake
         rw [ht', ← hlen]
         exact List.take_left
   · have hfo : (Builtin.firstCells i.size n (.slice A n c)).run P w.drew = .ok xs.toArray w.drew := by
       rcases hown.2 with ⟨h1, h2⟩ | ⟨g, cap, cur, h1, hbg, hg, hnc, hcm, hcs, htake⟩
       · injection h1 with h1 _ _
         subst h1
         have : xs = [] := List.eq_nil_of_length_eq_zero (by rw [hxl]; exact h2)
         subst this
         simp [Builtin.firstCells]
       · have holds : ∀ j u, xs[j]? = some u → w.cell? ((⟨g, 0, none⟩ : Addr).add j) = some u := World.ownsRow.cells (g := g) hown (by injection h1 with h1; rw [h1]; rfl)
         injection h1 with h1 _ _
         subst h1
         exact run_firstCells_some (P := P) w.drew i.size n ⟨g, 0, none⟩ n c xs (by rw [hsize, hxl, Nat.mul_one]) (by simpa using holds)
     have hr := Lib.run_append_grow_zeros (P := P) w t tn ty e i (.int .u8 0) kq kn ht htn hi hz A n c xs hfo k (by omega) (by rw [hsize]; decide) (by omega) (by omega) (by rw [hby]; omega) (by rw [hby]; exact growslice_fits (by omega) (by omega))
     have hge := grownCap_ge w (n + k) c e
     have hcm : grownCap w (n + k) c e ≤ maxLen := grownCap_le_maxLen w (n + k) c e hmx
     refine ⟨_, _, _, hr, ⟨hlen, .inr ⟨w.heap.size, _, _, rfl, Nat.zero_le _, heap_alloc_new w.drew _, hge, hcm, ?_, ?_⟩⟩, ⟨rfl, rfl, rfl, by simp, fun _ hj _ => heap_alloc_old w.drew _ hj⟩, .inr rfl⟩
     · have hz1 : (Value.int IntKind.u8 0).cells.size = 1 := rfl
       simp only [Array.size_append, List.size_toArray, size_zeroCells, hz1, hxl]
       omega
     · rw [zeroCells_u8 k]
       simp only [Array.toList_append, List.append_assoc]
       rw [← List.append_assoc, ← hlen]
       exact List.take_left
end Kit
end Go.Proofs.YtigdlnfgdjfdoaaGreat
