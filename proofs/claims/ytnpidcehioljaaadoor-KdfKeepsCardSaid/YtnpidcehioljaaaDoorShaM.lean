/- What statements over digests play: pieces in one, equal digests, the pieces that come in; rows as texts. -/
import Derived.Test.YtnpidcehioljaaaDoorShaH
import Derived.Stop.BytesEq
import Derived.Deep.Matrix
import Derived.Lib.SlBytesConst
namespace Go.Proofs.YtnpidcehioljaaaDoor.Sha
open Go Go.RowKit Kit

theorem eq32 (xs ys : List UInt8) (hx : xs.length = 32) (hy : ys.length = 32) (w : World) : (Op.equalIn 10000 34 (.agg (bvs xs).toArray) (.agg (bvs ys).toArray)).run Tryd.prog w = .ok (xs == ys) w :=
  run_equalIn_bytes w 9998 34 5 32 arr32b (by kernel_rfl) (fun _ => by kernel_rfl) xs ys hx hy
theorem eq_same (l : List UInt8) (w : World) : (Op.equalIn 10000 34 (.agg (bvs (of l)).toArray) (.agg (bvs (of l)).toArray)).run Tryd.prog w = .ok true w := by
  rw [eq32 _ _ (of_length l) (of_length l)]; simp

theorem row_marked (w : World) (xs : List Value) (t : TypeId) (fr : Nat × Nat) : Row (w.alloc (.cells xs.toArray t fr)) (some ⟨w.heap.size, 0, none⟩) xs := by
  refine .inr ⟨w.heap.size, 0, rfl, by simp, fun i u hu => ?_⟩
  have h : (w.alloc (.cells xs.toArray t fr)).heap[w.heap.size]? = some (.cells xs.toArray t fr) := heap_alloc_new w _
  simp only [World.cell?, h, Nat.zero_add]
  simpa using hu
theorem pcs_one {w : World} {F : Nat → Prop} {p : Pc} (h1 : p.l.length = p.n) (h2 : Row w p.A (bvs p.l)) (h3 : p.l = [] ∨ ∀ k, ab p.A = some k → ¬ F k) (h4 : p.n ≤ p.c) (h5 : p.c ≤ maxLen) : PcsOk w F [p] := by
  intro q hq
  obtain rfl := List.mem_singleton.1 hq
  exact ⟨h1, h2, h3, h4, h5⟩
theorem of_one (p : Pc) (w : World) (t : TypeId) (g : Nat) (hg : g = w.heap.size) (ht : Tabs w) (hp : PcsOk w nob [p]) (hl : p.l.length ≤ 1099511627776) :
    Calls Tryd.prog 29 #[.slice (some ⟨g, 0, none⟩) 1 1] (w.alloc (.cells #[.slice p.A p.n p.c] t)) fun e w' => e = .returned (.agg (bvs (of p.l)).toArray) ∧ Kp nob w w' := by
  subst hg
  have K := (Kp.refl nob w).alloc (.cells #[.slice p.A p.n p.c] t)
  have e : catP [p] = p.l := by simp [catP]
  refine (of_any (some ⟨w.heap.size, 0, none⟩) 1 1 [p] _ (ht.keep0 K) rfl (row_one w _ t) (hp.keep0 K) (by omega) (by rw [e]; exact hl)).mono ?_
  rintro e' w' ⟨rfl, k⟩
  exact ⟨by rw [e], K.trans k (fun _ e => e.elim)⟩
theorem write_one (b : Nat) (l : List UInt8) (p : Pc) (w : World) (t : TypeId) (g : Nat) (hg : g = w.heap.size) (h : Has w b l) (ht : Tabs w) (hb : Far b) (hp : PcsOk w (oneB b) [p]) (hl : l.length + p.l.length ≤ 1099511627776) :
    Calls Tryd.prog 19 #[.pointer (some ⟨b, 0, none⟩), .slice (some ⟨g, 0, none⟩) 1 1] (w.alloc (.cells #[.slice p.A p.n p.c] t)) fun e w' => e = .returned (.tuple #[]) ∧ Has w' b (l ++ p.l) ∧ Kp (oneB b) w w' := by
  subst hg
  have K := (Kp.refl nob w).alloc (.cells #[.slice p.A p.n p.c] t)
  have hlt := h.lt
  have e : catP [p] = p.l := by simp [catP]
  have hne : ∀ k, ab (some (⟨w.heap.size, 0, none⟩ : Addr)) = some k → k ≠ b := by
    intro k e
    have : w.heap.size = k := by simpa [ab] using e
    omega
  refine (write_any b l (some ⟨w.heap.size, 0, none⟩) 1 1 [p] _ (h.keep K (fun e => e)) (ht.keep0 K) hb rfl (row_one w _ t) (.inr hne) (hp.keep K (fun _ e => e.elim)) (by omega) (by rw [e]; exact hl)).mono ?_
  rintro e' w' ⟨rfl, h2, k⟩
  exact ⟨rfl, by rw [e] at h2; exact h2, (K.nob (oneB b)).trans k (fun _ e => .inl e)⟩

def zero32 : List UInt8 := List.replicate 32 0
theorem eq_zero (w : World) : (Op.equalIn 10000 34 (.agg (bvs zero32).toArray) (.agg (bvs zero32).toArray)).run Tryd.prog w = .ok true w := by
  rw [eq32 _ _ rfl rfl]; simp
theorem zero_lit : #[Value.int IntKind.u8 0, Value.int IntKind.u8 0, Value.int IntKind.u8 0, Value.int IntKind.u8 0, Value.int IntKind.u8 0, Value.int IntKind.u8 0, Value.int IntKind.u8 0, Value.int IntKind.u8 0, Value.int IntKind.u8 0, Value.int IntKind.u8 0, Value.int IntKind.u8 0, Value.int IntKind.u8 0, Value.int IntKind.u8 0, Value.int IntKind.u8 0, Value.int IntKind.u8 0, Value.int IntKind.u8 0, Value.int IntKind.u8 0, Value.int IntKind.u8 0, Value.int IntKind.u8 0, Value.int IntKind.u8 0, Value.int IntKind.u8 0, Value.int IntKind.u8 0, Value.int IntKind.u8 0, Value.int IntKind.u8 0, Value.int IntKind.u8 0, Value.int IntKind.u8 0, Value.int IntKind.u8 0, Value.int IntKind.u8 0, Value.int IntKind.u8 0, Value.int IntKind.u8 0, Value.int IntKind.u8 0, Value.int IntKind.u8 0] = (bvs zero32).toArray := by kernel_rfl
theorem eq_lit (w : World) : (Op.equalIn 10000 34 (.agg (bvs zero32).toArray) (.agg #[Value.int IntKind.u8 0, Value.int IntKind.u8 0, Value.int IntKind.u8 0, Value.int IntKind.u8 0, Value.int IntKind.u8 0, Value.int IntKind.u8 0, Value.int IntKind.u8 0, Value.int IntKind.u8 0, Value.int IntKind.u8 0, Value.int IntKind.u8 0, Value.int IntKind.u8 0, Value.int IntKind.u8 0, Value.int IntKind.u8 0, Value.int IntKind.u8 0, Value.int IntKind.u8 0, Value.int IntKind.u8 0, Value.int IntKind.u8 0, Value.int IntKind.u8 0, Value.int IntKind.u8 0, Value.int IntKind.u8 0, Value.int IntKind.u8 0, Value.int IntKind.u8 0, Value.int IntKind.u8 0, Value.int IntKind.u8 0, Value.int IntKind.u8 0, Value.int IntKind.u8 0, Value.int IntKind.u8 0, Value.int IntKind.u8 0, Value.int IntKind.u8 0, Value.int IntKind.u8 0, Value.int IntKind.u8 0, Value.int IntKind.u8 0])).run Tryd.prog w = .ok true w := by
  rw [zero_lit]; exact eq_zero w
theorem u8_string : Tryd.prog.underlying 9 = some .string := by kernel_rfl
theorem conv_row (w1 : World) (A2 : Option Addr) (n c : Nat) (l : List UInt8) (hn : l.length = n) (hr : Row w1 A2 (bvs l)) : (convert 22 9 (.slice A2 n c)).run Tryd.prog w1 = .ok (.string (str l)) w1 :=
  run_bytes_str w1 22 9 5 u8s_under (by kernel_rfl) u8_string A2 n c l hn hr

theorem made_zero (n : Nat) : madeCells #[(.int .u8 0 : Value)] n = (bvs (List.replicate n 0)).toArray := by
  apply Array.ext
  · simp [size_madeCells, bvs]
  · intro i h1 h2
    simp [madeCells, bvs, bv, Nat.mod_one]
theorem make_bytes (n : Nat) (hn : n ≤ 300) (w : World) : (Instr.makeSlice 22 (.int .i64 (n : Int)) (.int .i64 (n : Int))).run Tryd.prog w = .ok (.slice (some ⟨w.heap.size, 0, none⟩) n n) (w.alloc (.cells (bvs (List.replicate n 0)).toArray 5)) := by
  rw [← made_zero]
  exact run_make_row' 22 5 (.int .u8 0) 1 u8s_under u8s_info rfl .i64 .i64 n (by omega) (by omega) w
theorem bytes_of {xs : List Value} (h : ∀ u ∈ xs, ∃ x : UInt8, u = bv x) : ∃ l : List UInt8, xs = bvs l := by
  induction xs with
  | nil => exact ⟨[], rfl⟩
  | cons a xs ih =>
    obtain ⟨x, rfl⟩ := h a (by simp)
    obtain ⟨l, rfl⟩ := ih (fun u hu => h u (by simp [hu]))
    exact ⟨x :: l, rfl⟩

theorem u8_size : ∀ w, (sizeOf 5).run Tryd.prog w = .ok 1 w := fun _ => by kernel_rfl
theorem slice_to (A : Option Addr) (n c i : Nat) (hi : i ≤ c) (w : World) : (Instr.slice 22 (.slice A n c) none (some (.int .i64 i)) none).run Tryd.prog w = .ok (.slice A i c) w := by
  have he : Tryd.prog.elem 22 = 5 := by kernel_rfl
  rw [run_slice_h w 22 A n c (by kernel_rfl) .i64 i (by omega) (by omega), he, u8_size]
  cases A <;> simp [Result.andThen, sliced, Addr.add]
theorem slice_of (A : Option Addr) (n c i j : Nat) (hi : i ≤ j) (hj : j ≤ c) (w : World) : (Instr.slice 22 (.slice A n c) (some (.int .i64 i)) (some (.int .i64 j)) none).run Tryd.prog w = .ok (.slice (cutA A c i) (j - i) (c - i)) w := by
  have he : Tryd.prog.elem 22 = 5 := by kernel_rfl
  rw [run_slice_lh w 22 A n c (by kernel_rfl) .i64 .i64 i j (by omega) (by omega) (by omega), he, u8_size]
  simp [Result.andThen, sliced, cutA]

/-- The argument of pieces, opened. -/
theorem pcs_of {H : Type} {enc : TypeId × Value → H} {W : World} {base : Nat} {held : Bool} {fuel : Nat} {A : Option Addr} {len cap : Nat} {x : DataW H × List MemPlace}
    (h : DataW.trod enc Tryd.prog W base (fun _ => true) held fuel 23 [.slice A len cap] = some x) :
    ∃ ps : List Pc, ps.length = len ∧ Row W A (ps.map Pc.v) ∧ len ≤ maxLen ∧ PcsOk W nob ps ∧ (∀ p ∈ ps, p.A = none → p.c = 0) ∧ ∀ p ∈ ps, p.n = 0 ∨ ∃ n ∈ x.1.weights Tryd.prog 23, p.n ≤ n := by
  rcases Go.Deep.open_int_rows (k := .u8) Tryd.underlying23 Tryd.underlying22 Tryd.underlying5 (by kernel_rfl) (by kernel_rfl) h with ⟨hcs, _⟩ | ⟨a, l, c, B, L, C, Z, hcs, _, hl, hm, hx, hi⟩
  · simp only [List.cons.injEq, Value.slice.injEq, and_true] at hcs
    obtain ⟨rfl, rfl, rfl⟩ := hcs
    exact ⟨[], rfl, Row.nil _ _, by simp [maxLen], fun p hp => by simp at hp, by simp, by simp⟩
  · simp only [List.cons.injEq, Value.slice.injEq, and_true] at hcs
    obtain ⟨rfl, rfl, rfl⟩ := hcs
    have each : ∀ r, r < len → ∃ p : Pc, p.v = .slice (B r) (L r) (C r) ∧ p.A = B r ∧ p.n = L r ∧ p.c = C r ∧ p.l.length = p.n ∧ Row W p.A (bvs p.l) := by
      intro r hr
      obtain ⟨_, h1, h2, h3, h4, h5, h6⟩ := hi r (by omega)
      cases hB : B r with
      | none =>
        have := h5 hB
        have hL : L r = 0 := by omega
        exact ⟨⟨none, L r, C r, []⟩, rfl, rfl, rfl, rfl, hL.symm, Row.nil _ _⟩
      | some a' =>
        obtain ⟨lb, g1, g2⟩ := row_of_ints (W := W) (x := a') h1 h3 (fun i hi' => (h6 a' hB).2 i (by omega)) h4
        exact ⟨⟨some a', L r, C r, lb⟩, rfl, rfl, rfl, rfl, g1, g2⟩
    have : Inhabited Pc := ⟨⟨none, 0, 0, []⟩⟩
    obtain ⟨y, hy⟩ := Go.Deep.choose_lt each
    have mem : ∀ p ∈ (List.range len).map y, ∃ r, r < len ∧ p = y r := fun p hp => by
      obtain ⟨r, hr, rfl⟩ := List.mem_map.1 hp
      exact ⟨r, List.mem_range.1 hr, rfl⟩
    refine ⟨(List.range len).map y, by simp, ?_, Nat.le_trans hl hm, ?_, ?_, ?_⟩
    · by_cases h0 : len = 0
      · subst h0; exact Row.nil _ _
      · obtain ⟨hc0, _⟩ := hi 0 (by omega)
        obtain ⟨b, o, sp⟩ := a
        cases sp with
        | some j => simp [Addr.add, World.cell?] at hc0; split at hc0 <;> simp at hc0
        | none =>
          refine .inr ⟨b, o, rfl, World.block_lt_of_cell? W _ hc0, fun i u hu => ?_⟩
          simp only [List.map_map, List.getElem?_map] at hu
          have hil : i < len := by
            rcases Nat.lt_or_ge i len with h | h
            · exact h
            · rw [List.getElem?_eq_none (by simpa using h)] at hu; cases hu
          rw [List.getElem?_eq_getElem (by simpa using hil)] at hu
          simp at hu
          obtain ⟨hci, _⟩ := hi i (by omega)
          rw [Addr.add_mid] at hci
          rw [hci, ← hu, (hy i hil).1]
    · intro p hp
      obtain ⟨r, hr, rfl⟩ := mem p hp
      obtain ⟨_, h1, h2, _⟩ := hi r (by omega)
      obtain ⟨_, _, e2, e3, e4, e5⟩ := hy r hr
      exact ⟨e4, e5, .inr (fun _ _ e => e), by rw [e2, e3]; exact h1, by rw [e3]; exact h2⟩
    · intro p hp e
      obtain ⟨r, hr, rfl⟩ := mem p hp
      obtain ⟨_, _, _, _, _, h5, _⟩ := hi r (by omega)
      obtain ⟨_, e1, e2, e3, _⟩ := hy r hr
      rw [e3]; exact h5 (by rw [← e1]; exact e)
    · intro p hp
      obtain ⟨r, hr, rfl⟩ := mem p hp
      obtain ⟨_, h1, h2, h3, h4, h5, h6⟩ := hi r (by omega)
      obtain ⟨_, e1, e2, e3, _⟩ := hy r hr
      cases hB : B r with
      | none => left; rw [e2]; have := h5 hB; omega
      | some a' =>
        right
        refine ⟨C r, ?_, by rw [e2]; exact h1⟩
        rw [hx]
        refine weights_slice Tryd.underlying23 (d := Go.Deep.intRow .u8 (B r) (L r) (Z r)) (List.mem_map.2 ⟨r, List.mem_range.2 hr, rfl⟩) _ ?_
        have hb : Tryd.prog.bytesOf 5 = 1 := by kernel_rfl
        rw [hB]
        simp only [Go.Deep.intRow, DataW.weights, Tryd.underlying22, hb]
        refine List.mem_cons.2 (.inl ?_)
        simp [ChangeShapes.lits]
        omega
end Go.Proofs.YtnpidcehioljaaaDoor.Sha
