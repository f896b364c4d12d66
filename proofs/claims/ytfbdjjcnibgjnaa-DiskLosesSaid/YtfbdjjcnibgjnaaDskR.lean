/- The six slices made; the walk's facts. No call is walked here. -/
import Derived.Test.YtfbdjjcnibgjnaaDskQ
import Derived.Test.YtfbdjjcnibgjnaaPcs
namespace Go.Proofs.Ytfbdjjcnibgjnaa.Disk
set_option linter.unusedVariables false
set_option linter.unusedSimpArgs false
open Go Go.RowKit Kit

/-- The first k slices are made. -/
structure L1 (w wr : World) (g N S : Nat) (D : Dk) (gm k : Nat) (sl : List Sl) : Prop where
  fo : Fo w wr g N S none 0 D
  len : sl.length = k
  blk : Blk wr gm 31 (sl.map Sl.v ++ List.replicate (6 - k) (.slice none 0 0))
  row : ∀ (q : Nat) (s : Sl), sl[q]? = some s → RowAt 9 wr s.A s.n s.c [txt (full [])]
  far : ∀ (q : Nat) (s : Sl), sl[q]? = some s → ab s.A ≠ some gm
  ap : ∀ (q r : Nat) (s t : Sl), q ≠ r → sl[q]? = some s → sl[r]? = some t → ab s.A ≠ ab t.A
  df : ∀ k, Fm gm sl k → ¬ dF g N S none k
  fr : ∀ k, Fm gm sl k → w.heap.size ≤ k
theorem L1.first {w w4 : World} {g N S : Nat} {D : Dk} (h : Fo w w4 g N S none 0 D) : L1 w (w4.alloc (.cells #[.slice none 0 0, .slice none 0 0, .slice none 0 0, .slice none 0 0, .slice none 0 0, .slice none 0 0] 31)) g N S D w4.heap.size 0 [] := by
  refine ⟨h.keep0 ((Kp.refl nob w4).alloc _), rfl, heap_alloc_new w4 _, (fun q s hs => by cases hs), (fun q s hs => by cases hs), (fun q r s t _ hs => by cases hs), fun k e e2 => ?_, fun k e => ?_⟩
  · rcases e with rfl | ⟨q, s, hs, _⟩
    · have := h.d.lt _ e2; omega
    · cases hs
  · rcases e with rfl | ⟨q, s, hs, _⟩
    · exact h.k.size
    · cases hs
theorem L1.lt {w wr : World} {g N S : Nat} {D : Dk} {gm k : Nat} {sl : List Sl} (h : L1 w wr g N S D gm k sl) : ∀ j, Fm gm sl j → j < wr.heap.size := by
  rintro j (rfl | ⟨q, s, hs, e⟩)
  · exact h.blk.lt
  · exact (h.row q s hs).lt j e
theorem L1.cell {w wr : World} {g N S : Nat} {D : Dk} {gm k : Nat} {sl : List Sl} (h : L1 w wr g N S D gm k sl) (hk : k < 6) (O O2 : Obj) : ((wr.alloc O).alloc O2).cell? ⟨gm, k, none⟩ = some (.slice none 0 0) ∧ ((wr.alloc O).alloc O2).frozen? ⟨gm, k, none⟩ = false := by
  have hb := (h.blk.alloc O).alloc O2
  refine ⟨?_, hb.frozen k⟩
  rw [hb.cell, List.getElem?_append_right (by rw [List.length_map, h.len]; exact Nat.le_refl _), List.length_map, h.len, List.getElem?_replicate, if_pos (by omega)]
theorem L1.step {w wr : World} {g N S : Nat} {D : Dk} {gm k : Nat} {sl : List Sl} (h : L1 w wr g N S D gm k sl) (hk : k < 6) (O : Obj) (z : Nat) (hz : z = wr.heap.size + 1) :
    L1 w (((wr.alloc O).alloc (.cells #[txt (full [])] 9)).setCell ⟨gm, k, none⟩ (.slice (some ⟨z, 0, none⟩) 1 1)) g N S D gm (k + 1) (sl ++ [⟨some ⟨z, 0, none⟩, 1, 1⟩]) := by
  obtain rfl : z = (wr.alloc O).heap.size := by rw [hz]; simp
  clear hz
  have ka : Kp nob wr ((wr.alloc O).alloc (.cells #[txt (full [])] 9)) := ((Kp.refl nob wr).alloc _).alloc _
  have kg := (Kp.refl (oneB gm) ((wr.alloc O).alloc (.cells #[txt (full [])] 9))).setCell (p := ⟨gm, k, none⟩) (.inl rfl) (.slice (some ⟨(wr.alloc O).heap.size, 0, none⟩) 1 1)
  have hb := h.blk.keep ka (fun e => e)
  have hlt := h.lt
  have hgm := hlt gm (.inl rfl)
  have hsz : (wr.alloc O).heap.size = wr.heap.size + 1 := by simp
  have hnr : RowAt 9 ((wr.alloc O).alloc (.cells #[txt (full [])] 9)) (some ⟨(wr.alloc O).heap.size, 0, none⟩) 1 1 [txt (full [])] := RowAt.new (wr.alloc O) _ [txt (full [])] (by simp [maxLen])
  have hat : ∀ q s, (sl ++ [⟨some ⟨(wr.alloc O).heap.size, 0, none⟩, 1, 1⟩])[q]? = some s → (q < k ∧ sl[q]? = some s) ∨ (q = k ∧ s = ⟨some ⟨(wr.alloc O).heap.size, 0, none⟩, 1, 1⟩) := by
    intro q s hs
    rw [List.getElem?_append] at hs
    split at hs
    · rename_i hq; exact .inl ⟨by rw [← h.len]; exact hq, hs⟩
    · rename_i hq
      rw [h.len] at hq hs
      have h1 := (List.getElem?_eq_some_iff.1 hs).1
      simp at h1
      obtain rfl : q = k := by omega
      rw [Nat.sub_self] at hs
      exact .inr ⟨rfl, (Option.some.inj hs).symm⟩
  have hfm : ∀ j, Fm gm (sl ++ [⟨some ⟨(wr.alloc O).heap.size, 0, none⟩, 1, 1⟩]) j → Fm gm sl j ∨ wr.heap.size ≤ j := by
    rintro j (e | ⟨q, s, hs, e⟩)
    · exact .inl (.inl e)
    · rcases hat q s hs with ⟨_, h2⟩ | ⟨_, rfl⟩
      · exact .inl (.inr ⟨q, s, h2, e⟩)
      · right; have e : (wr.alloc O).heap.size = j := Option.some.inj e; omega
  refine ⟨⟨(h.fo.d.keep0 ka).keep kg (fun j e e2 => h.df j (.inl e2) e), h.fo.f, (h.fo.k.trans ka (fun _ e => e.elim)).since kg (fun j e => h.fr j (.inl e))⟩, by rw [List.length_append, h.len]; rfl, ?_, fun q s hs => ?_, fun q s hs => ?_, fun q r s t hqr hs ht => ?_, fun j e e2 => ?_, fun j e => ?_⟩
  · have := hb.set_ k (.slice (some ⟨(wr.alloc O).heap.size, 0, none⟩) 1 1)
    rw [List.set_append_right _ _ (by rw [List.length_map, h.len]; exact Nat.le_refl _), List.length_map, h.len, Nat.sub_self, show 6 - k = (6 - (k + 1)) + 1 by omega, List.replicate_succ, List.set_cons_zero] at this
    rw [List.map_append, List.append_assoc]
    exact this
  · rcases hat q s hs with ⟨_, h2⟩ | ⟨_, rfl⟩
    · exact ((h.row q s h2).keep ka (fun _ _ e => e)).keep kg (fun j e1 e2 => h.far q s h2 (by rw [e1]; exact congrArg some e2))
    · exact hnr.keep kg (fun j e1 e2 => by have e1 : (wr.alloc O).heap.size = j := Option.some.inj e1; have e2 : j = gm := e2; omega)
  · rcases hat q s hs with ⟨_, h2⟩ | ⟨_, rfl⟩
    · exact h.far q s h2
    · intro e; have e : (wr.alloc O).heap.size = gm := Option.some.inj e; omega
  · rcases hat q s hs with ⟨_, h2⟩ | ⟨h1, rfl⟩
    · rcases hat r t ht with ⟨_, h3⟩ | ⟨_, rfl⟩
      · exact h.ap q r s t hqr h2 h3
      · intro e; have : (wr.alloc O).heap.size < wr.heap.size := hlt _ (.inr ⟨q, s, h2, e⟩); omega
    · rcases hat r t ht with ⟨_, h3⟩ | ⟨h4, _⟩
      · intro e; have : (wr.alloc O).heap.size < wr.heap.size := hlt _ (.inr ⟨r, t, h3, e.symm⟩); omega
      · exact absurd (h1.trans h4.symm) hqr
  · rcases hfm j e with h4 | h4
    · exact h.df j h4 e2
    · have := h.fo.d.lt j e2; omega
  · rcases hfm j e with h4 | h4
    · exact h.fr j h4
    · exact Nat.le_trans h.fo.k.size h4
theorem L1.last {w wr : World} {g N S : Nat} {D : Dk} {gm : Nat} {sl : List Sl} (h : L1 w wr g N S D gm 6 sl) : Lo w wr g N S none 0 D gm sl m0 := by
  have hb := h.blk
  rw [Nat.sub_self, List.replicate_zero, List.append_nil] at hb
  refine ⟨h.fo, ⟨h.len, hb, fun q s hs => ?_, h.far, h.ap, fun q hq => if_neg (by omega)⟩, h.df, h.fr⟩
  have hq : q < 6 := by rw [← h.len]; exact (List.getElem?_eq_some_iff.1 hs).1
  have := h.row q s hs
  unfold m0
  rw [if_pos hq]
  exact this
theorem make256 (w : World) : (Instr.makeSlice 32 (.int .i64 256) (.int .i64 256)).run Try.prog w = .ok (.slice (some ⟨w.heap.size, 0, none⟩) 256 256) (w.alloc (.cells (bvs z256).toArray 5)) := make_any 256 (Nat.le_refl _) w
theorem conv256 (w : World) : (convert 32 9 (.slice (some ⟨w.heap.size, 0, none⟩) 256 256)).run Try.prog (w.alloc (.cells (bvs z256).toArray 5)) = .ok (.string (str (full []))) (w.alloc (.cells (bvs z256).toArray 5)) :=
  conv_row (w.alloc (.cells (bvs z256).toArray 5)) (some ⟨w.heap.size, 0, none⟩) 256 256 z256 (by rw [z256, List.length_replicate]) (row_new w _ _)
/-- What a write that may be answers. -/
theorem write_two (D : Dk) (p : Nat) (b : List UInt8) (ho : D.off = false) (hp : p < D.now.length) (hb : b.length ≤ 256) :
    ((write E8 D p b).2 = 0 ∧ (write E8 D p b).1.off = false) ∨ (write E8 D p b).2 = E8.down := by
  unfold Disk.write
  rw [if_neg (by rw [ho]; simp), if_neg (by omega), if_neg (by omega), Int.toNat_natCast]
  split
  · exact .inr rfl
  · left; refine ⟨rfl, ?_⟩; rw [act_on D ho]; exact ho
/-- What a sync answers. -/
theorem sync_two (D : Dk) (ho : D.off = false) : ((sync E8 D).2 = 0 ∧ (sync E8 D).1 = { (act D).1 with safe := D.now, waits := [] }) ∨ ((sync E8 D).2 = E8.down ∧ (sync E8 D).1 = lose (act D).1 D.keep) := by
  unfold Disk.sync
  rw [if_neg (by rw [ho]; simp)]
  split
  · exact .inr ⟨rfl, rfl⟩
  · exact .inl ⟨rfl, rfl⟩
theorem May.act {d : Dk} {m : Nat → List (List UInt8)} (h : May d m) : May (Disk.act d).1 m := by
  cases ho : d.off with
  | true => rw [act_off d ho]; exact h
  | false => rw [act_on d ho]; exact ⟨⟨h.ok.safe, h.ok.now, h.ok.safe2, h.ok.waits⟩, h.now, h.safe, h.waits, h.off⟩
theorem May.down {d : Dk} {m : Nat → List (List UInt8)} (h : May d m) (q : Nat) : May (Disk.lose (Disk.act d).1 q) m := h.act.lost q (lose_is_off _ _)
theorem sm_armed (fu : Int) (K : Nat) (hfu : fu ≤ 9223372036854775807) (hK : K < 18446744073709551616) : Sm (arm (new 6) fu K) 0 6 := ⟨Nat.le_refl _, Nat.le_refl _, by show fu.toNat ≤ _; omega, hK, new_length' 6⟩
def hasIt (v : List UInt8) (l : List (List UInt8)) : Bool := l.any fun a => decide (v = a)
theorem hasIt_all (v : List UInt8) (l : List (List UInt8)) (h : v ∈ l) : hasIt v l = true := by
  unfold hasIt; rw [List.any_eq_true]; exact ⟨v, h, by simp⟩
theorem hasIt_next (v : List UInt8) (l : List (List UInt8)) (j : Nat) (a : List UInt8) (h : l[j]? = some a) : hasIt v (l.take (j + 1)) = (hasIt v (l.take j) || decide (v = a)) := by
  unfold hasIt
  rw [List.take_add_one, h, List.any_append]; simp
theorem row_at_map {α : Type} {f : α → Value} {w : World} {A : Option Addr} {l : List α} (h : Row w A (l.map f)) (k : Nat) (x : α) (hx : l[k]? = some x) : ∃ b o, A = some ⟨b, o, none⟩ ∧ w.cell? ⟨b, o + k, none⟩ = some (f x) := by
  rcases h with h | ⟨b, o, rfl, hb, hc⟩
  · have : l = [] := List.map_eq_nil_iff.1 h
    rw [this] at hx; cases hx
  · exact ⟨b, o, rfl, hc k _ (by rw [List.getElem?_map, hx]; rfl)⟩
theorem cell_keep {w w2 : World} {p : Addr} {v : Value} (k : Kp nob w w2) (h : w.cell? p = some v) : w2.cell? p = some v := by
  rw [k.cell (World.block_lt_of_cell? w p h) (fun e => e)]; exact h
theorem strs_under : Try.prog.underlying 30 = some (.slice 9) := by kernel_rfl
theorem str_info : (Try.prog.info? 9).map (fun i => (i.zero, i.size, i.bytes)) = some (some (.string ByteArray.empty), 1, 16) := by kernel_rfl
theorem strs_cut (A : Option Addr) (n c k : Nat) (hk : k ≤ n) (w : World) : (Instr.sliceAt 30 (.slice A n c) (some (.int .i64 (k : Int))) none none).run Try.prog w = .ok (.slice (cutA A c k) (n - k) (c - k)) w := run_slice_from _ 9 strs_under (fun _ => by kernel_rfl) A n c k hk w
theorem add_len {mm : Nat → List (List UInt8)} {k : Nat} (h : ∀ q, (mm q).length ≤ k) (p : Nat) (l : List UInt8) : ∀ q, (add mm p l q).length ≤ k + 1 := fun q => by
  unfold add
  split
  · rw [List.length_append]; have := h q; simp; omega
  · have := h q; omega
theorem m0_len (q : Nat) : (m0 q).length ≤ 1 := by unfold m0; split <;> simp
/-- A slice cut. -/
theorem exec_cut {P : Program} {w : World} {a : Act} {o : Oper} (ty : TypeId) (x y : Operand) (ho : o.op = .slice ty x (some y) none none) (p z v : Value) (hx : a.eval x = p) (hy : a.eval y = z)
    (hr : (Instr.sliceAt ty p (some z) none none).run P w = .ok v w) : (execOp a.eval o).run P w = .ok (.value v) w := by
  unfold execOp
  simp only [ho, hx, hy, Option.map_some, Option.map_none, Sem.run_bind, hr, Result.andThen_ok, Sem.run_pure]
end Go.Proofs.Ytfbdjjcnibgjnaa.Disk
