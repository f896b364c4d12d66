/- A register and its disk while a script is played: blocks that lie beside them. -/
import Derived.Test.YtchdobneipfghaaZMtF
import Derived.Test.YtchdobneipfghaaZScrM
import Derived.Test.YtchdobneipfghaaZG01
namespace Go.Proofs.Ytchdobneipfghaa.Meter
set_option linter.unusedVariables false
set_option linter.unusedSimpArgs false
open Go Go.RowKit Kit Disk

theorem wpList_load_gdm {P : Program} {ops : Array Oper} {rest : List Oper} {op : Oper} {a : Act} {w : World} {Q : Exit → Act → World → Prop} (ty : TypeId) (x : Operand) (ho : op.op = .load ty x)
    (hw : Region.wanted op (yielded ops a.tmps) = true)
    (g o : Nat) (cs : List Value) (hB : w.rangeAt g o cs) (hx : a.eval x = .pointer (some ⟨g, o, none⟩)) (d : TypeDesc) (hu : P.underlying ty = some d) (hd : d.isRow = true) (hi : (P.info? ty).map (·.size) = some cs.length)
    (h : wpList P ops Q rest (a.put op.dst (.agg cs.toArray)) w) : wpList P ops Q (op :: rest) a w :=
  wpList_step fun K hK => by
    rw [if_pos hw]
    exact wp_load_mid ty x ho g o hx cs d hB hu hd hi (hK _ _ h)
theorem mcs_at {w : World} {A : Option Addr} {cs : List Mc} (hl : ∀ c ∈ cs, McOk c) (h : Row w A (cs.flatMap Mc.cells)) (k : Nat) (x : Mc) (hx : cs[k]? = some x) : ∃ b o, A = some ⟨b, o, none⟩ ∧ w.rangeAt b (o + k * 35) x.cells := by
  have hk : k < cs.length := (List.getElem?_eq_some_iff.1 hx).1
  have hb : ∀ a ∈ cs, a.cells.length = 35 := fun a ha => a.len (hl a ha).r
  rcases h with h | ⟨b, o, rfl, _, hc⟩
  · have := congrArg List.length h
    rw [fm_length cs hb] at this
    have h9 : cs.length * 35 = 0 := this
    omega
  · refine ⟨b, o, rfl, fun j v hv => ?_⟩
    have := hc (k * 35 + j) v (fm_part cs hb k x hx j v hv)
    rw [← Nat.add_assoc] at this
    exact this
theorem call_under : Try.prog.underlying 35 = some (.struct (Try.prog.fieldsOf 35)) := by kernel_rfl
theorem call_size (x : Mc) (h : x.r.length = 32) : (Try.prog.info? 35).map (·.size) = some x.cells.length := by rw [x.len h]; kernel_rfl
theorem call_c (x : Mc) (hx : x.r.length = 32) {w : World} {g : Nat} (h : Blk w g 35 x.cells) : w.cell? ⟨g, 0, none⟩ = some (.int .i64 x.kind) ∧ w.cell? ⟨g, 1, none⟩ = some (.int .i64 x.ep) ∧ w.cell? ⟨g, 34, none⟩ = some (.int .u64 (x.K : Int)) := by
  refine ⟨h.cell 0, h.cell 1, ?_⟩
  rw [h.cell]
  show (.int .i64 x.kind :: .int .i64 x.ep :: (bvs x.r ++ [.int .u64 (x.K : Int)]))[34]? = _
  rw [List.getElem?_cons_succ, List.getElem?_cons_succ, List.getElem?_append_right (by rw [bvs_length, hx]; decide), bvs_length, hx]; rfl
theorem call_r (x : Mc) {w : World} {g : Nat} (h : Blk w g 35 x.cells) : w.rangeAt g 2 (bvs x.r) :=
  h.part 2 _ (fun j v hv => by
    show (.int .i64 x.kind :: .int .i64 x.ep :: (bvs x.r ++ [.int .u64 (x.K : Int)]))[2 + j]? = _
    rw [Nat.add_comm 2 j, List.getElem?_cons_succ, List.getElem?_cons_succ, List.getElem?_append_left (List.getElem?_eq_some_iff.1 hv).1]; exact hv)
/-- Blocks that lie beside the register and its disk. -/
structure Mr (w wx : World) (m g N S : Nat) (bs : List (Nat × TypeId × List Value)) (t : Mt) (D : Dk) (k : Nat) (W : Option Addr) (cW : Nat) : Prop where
  md : Md w wx m g N S W cW t D
  sm : Sm D k 2
  bl : ∀ b ∈ bs, Blk wx b.1 b.2.1 b.2.2 ∧ ¬ mF m g N S W b.1 ∧ w.heap.size ≤ b.1
theorem Mr.both {w wx w2 : World} {m g N S k k2 : Nat} {bs : List (Nat × TypeId × List Value)} {t t2 : Mt} {D D2 : Dk} {W : Option Addr} {cW : Nat} (h : Mr w wx m g N S bs t D k W cW) (hz : Mz wx m g N S W t2 D2 w2) (hs : Sm D2 k2 2) : ∃ W2 c2, Mr w w2 m g N S bs t2 D2 k2 W2 c2 := by
  obtain ⟨W2, c2, h1, h2, h3⟩ := h.md.both hz
  exact ⟨W2, c2, h1, hs, fun b hb => ⟨(h.bl b hb).1.keep h2 (h.bl b hb).2.1, h3 _ (h.bl b hb).1.lt (h.bl b hb).2.1, (h.bl b hb).2.2⟩⟩
theorem Mr.disk {w wx w2 : World} {m g N S k k2 : Nat} {bs : List (Nat × TypeId × List Value)} {t : Mt} {D D2 : Dk} {W : Option Addr} {cW : Nat} (h : Mr w wx m g N S bs t D k W cW) (hz : Dz wx g N S W D2 w2) (hs : Sm D2 k2 2) : ∃ W2 c2, Mr w w2 m g N S bs t D2 k2 W2 c2 := by
  obtain ⟨W2, c2, h1, h2, h3⟩ := h.md.disk hz
  exact ⟨W2, c2, h1, hs, fun b hb => ⟨(h.bl b hb).1.keep h2 (h.bl b hb).2.1, h3 _ (h.bl b hb).1.lt (h.bl b hb).2.1, (h.bl b hb).2.2⟩⟩
theorem Mr.one {w wx w2 : World} {m g N S k k2 : Nat} {bs : List (Nat × TypeId × List Value)} {t : Mt} {D D2 : Dk} {W : Option Addr} {cW : Nat} (h : Mr w wx m g N S bs t D k W cW) (hd : Cd w2 g N S W cW D2) (hk : Kp (oneB g) wx w2) (hs : Sm D2 k2 2) : Mr w w2 m g N S bs t D2 k2 W cW := by
  obtain ⟨h1, h2⟩ := h.md.one hd hk
  exact ⟨h1, hs, fun b hb => ⟨(h.bl b hb).1.keep h2 (h.bl b hb).2.1, (h.bl b hb).2.1, (h.bl b hb).2.2⟩⟩
theorem Mr.keep0 {w wx w2 : World} {m g N S k : Nat} {bs : List (Nat × TypeId × List Value)} {t : Mt} {D : Dk} {W : Option Addr} {cW : Nat} (h : Mr w wx m g N S bs t D k W cW) (hk : Kp nob wx w2) : Mr w w2 m g N S bs t D k W cW :=
  ⟨h.md.keep0 hk, h.sm, fun b hb => ⟨(h.bl b hb).1.keep hk (fun e => e), (h.bl b hb).2.1, (h.bl b hb).2.2⟩⟩
/-- One block more, that was made now. -/
theorem Mr.add {w wx w2 : World} {m g N S k : Nat} {bs : List (Nat × TypeId × List Value)} {t : Mt} {D : Dk} {W : Option Addr} {cW : Nat} (h : Mr w wx m g N S bs t D k W cW) (hk : Kp nob wx w2) (b : Nat) (ty : TypeId) (cs : List Value) (hb : Blk w2 b ty cs) (hn : wx.heap.size ≤ b) : Mr w w2 m g N S ((b, ty, cs) :: bs) t D k W cW :=
  ⟨h.md.keep0 hk, h.sm, fun q hq => by
    rcases List.mem_cons.1 hq with rfl | hq
    · exact ⟨hb, h.md.far _ hn, Nat.le_trans h.md.k.size hn⟩
    · exact ⟨(h.bl q hq).1.keep hk (fun e => e), (h.bl q hq).2.1, (h.bl q hq).2.2⟩⟩
theorem Mr.sub {w wx : World} {m g N S k : Nat} {bs bs2 : List (Nat × TypeId × List Value)} {t : Mt} {D : Dk} {W : Option Addr} {cW : Nat} (h : Mr w wx m g N S bs t D k W cW) (hs : ∀ b ∈ bs2, b ∈ bs) : Mr w wx m g N S bs2 t D k W cW := ⟨h.md, h.sm, fun b hb => h.bl b (hs b hb)⟩
/-- One of these blocks is turned. -/
theorem Mr.turn {w wx w2 : World} {m g N S k : Nat} {t : Mt} {D : Dk} {W : Option Addr} {cW : Nat} (b : Nat) (ty : TypeId) (cs cs2 : List Value) (h : Mr w wx m g N S [(b, ty, cs)] t D k W cW) (hk : Kp (oneB b) wx w2) (hb : Blk w2 b ty cs2) : Mr w w2 m g N S [(b, ty, cs2)] t D k W cW := by
  have h1 := h.bl _ (List.mem_singleton.2 rfl)
  have hm : ∀ i, mF m g N S W i → ¬ oneB b i := fun i e e2 => h1.2.1 (by have e2 : i = b := e2; rw [← e2]; exact e)
  refine ⟨⟨h.md.d.keep hk (fun i e => hm i (.inr e)), h.md.me.keep hk (hm m (.inl rfl)), h.md.ne, h.md.fd, h.md.fm, h.md.k.since hk (fun i e => by have e : i = b := e; rw [e]; exact h1.2.2)⟩, h.sm, fun q hq => ?_⟩
  rw [List.mem_singleton.1 hq]
  exact ⟨hb, h1.2.1, h1.2.2⟩
theorem kinds (k : Int) : k = 0 ∨ k = 1 ∨ k = 2 ∨ k = 3 ∨ k = 4 ∨ (k ≠ 0 ∧ k ≠ 1 ∧ k ≠ 2 ∧ k ≠ 3 ∧ k ≠ 4) := by omega
theorem Sm.next {D : Dk} {k m : Nat} (h : Sm D k m) (hok : Ok D) (t : Mt) (e : Int) (r : List UInt8) : Sm (nxt t D e r).2.1 (k + 1) m := by
  by_cases hw : why t D.off e = 0
  · cases ha : (act D).2 with
    | false => rw [nxt_on hw ha]; exact h.act
    | true =>
      cases hk : high D.keep with
      | true => rw [nxt_hi hw ha hk]; exact h.act.lose (act_ok D hok) _
      | false => rw [nxt_lo hw ha hk]; exact h.act.lose (act_ok D hok) _
  · rw [nxt_no hw]; exact h.up
theorem Sm.arm {D : Dk} {k m : Nat} (h : Sm D k m) (n : Int) (K : Nat) (hn : n ≤ 9223372036854775807) (hK : K < 18446744073709551616) : Sm (arm D n K) k m := ⟨h.acts, h.waits, by show n.toNat ≤ _; omega, hK, h.len⟩
theorem Sm.on {D : Dk} {k m : Nat} (h : Sm D k m) : Sm (Disk.on D) k m := ⟨h.acts, h.waits, h.fuse, h.keep, h.len⟩
end Go.Proofs.Ytchdobneipfghaa.Meter
