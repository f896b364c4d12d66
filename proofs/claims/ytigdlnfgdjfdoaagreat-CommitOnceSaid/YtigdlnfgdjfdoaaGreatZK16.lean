/- Lemmas: DiskP RowAt DskA ChaC DskSz DskDn. -/
import Derived.Test.YtigdlnfgdjfdoaaGreatZK07
import Derived.Test.YtigdlnfgdjfdoaaGreatZK15
import Derived.Laws.Bits64b
set_option maxHeartbeats 4000000
set_option maxRecDepth 100000
set_option linter.unusedVariables false
set_option linter.unusedSimpArgs false
namespace Go.Proofs.YtigdlnfgdjfdoaaGreat
namespace Disk
open Go
def allw : List (Nat × List UInt8) → List (List UInt8) → List (List UInt8)
 | [], s => s
 | x :: xs, s => allw xs (s.set x.1 x.2)
theorem allw_length : ∀ (xs : List (Nat × List UInt8)) (s : List (List UInt8)), (allw xs s).length = s.length
 | [], _ => rfl
 | x :: xs, s => by rw [allw, allw_length xs, List.length_set]
theorem allw_snoc (y : Nat × List UInt8) : ∀ (xs : List (Nat × List UInt8)) (s : List (List UInt8)), allw (xs ++ [y]) s = (allw xs s).set y.1 y.2
 | [], _ => rfl
 | x :: xs, s => by rw [List.cons_append, allw, allw, allw_snoc y xs]
theorem allw_far (p : Nat) : ∀ (xs : List (Nat × List UInt8)) (s : List (List UInt8)), (∀ x ∈ xs, x.1 ≠ p) → (allw xs s)[p]? = s[p]?
 | [], _, _ => rfl
 | x :: xs, s, h => by rw [allw, allw_far p xs _ (fun y hy => h y (List.mem_cons_of_mem _ hy)), List.getElem?_set_ne (h x (by simp))]
theorem kept_all (i : Nat) : kept 18446744073709551615 i = true := by
 unfold kept
 have h : i % 64 < 64 := Nat.mod_lt _ (by decide)
 generalize i % 64 = j at h
 have : ∀ j : Fin 64, decide (18446744073709551615 / 2 ^ j.1 % 2 = 1) = true := by decide
 exact this ⟨j, h⟩
theorem over_all : ∀ (xs : List (Nat × List UInt8)) (i : Nat) (s : List (List UInt8)), over 18446744073709551615 i xs s = allw xs s
 | [], _, _ => rfl
 | x :: xs, i, s => by rw [over, kept_all, allw, over_all xs]; rfl
def back (safe : List (List UInt8)) : List (Nat × List UInt8) → List (List UInt8) → List (List UInt8)
 | [], now => now
 | x :: xs, now => back safe xs (now.set x.1 (safe.getD x.1 []))
theorem back_length (safe : List (List UInt8)) : ∀ (xs : List (Nat × List UInt8)) (now : List (List UInt8)), (back safe xs now).length = now.length
 | [], _ => rfl
 | x :: xs, now => by rw [back, back_length safe xs, List.length_set]
theorem back_snoc (safe : List (List UInt8)) (y : Nat × List UInt8) : ∀ (xs : List (Nat × List UInt8)) (now : List (List UInt8)), back safe (xs ++ [y]) now = (back safe xs now).set y.1 (safe.getD y.1 [])
 | [], _ => rfl
 | x :: xs, now => by rw [List.cons_append, back, back, back_snoc safe y xs]
theorem back_next (safe : List (List UInt8)) (xs : List (Nat × List UInt8)) (now : List (List UInt8)) (k : Nat) (x : Nat × List UInt8) (hx : xs[k]? = some x) : back safe (xs.take (k + 1)) now = (back safe (xs.take k) now).set x.1 (safe.getD x.1 []) := by
 rw [List.take_add_one, hx]
 simp only [Option.toList_some]
 rw [back_snoc]
theorem back_there (safe : List (List UInt8)) (p : Nat) : ∀ (xs : List (Nat × List UInt8)) (now : List (List UInt8)), now.length = safe.length → (∃ x ∈ xs, x.1 = p) ∨ now[p]? = safe[p]? → (back safe xs now)[p]? = safe[p]?
 | [], _, _, h => by
   rcases h with ⟨x, hx, _⟩ | h
   · cases hx
   · exact h
 | x :: xs, now, hl, h => by
   rw [back]
   refine back_there safe p xs _ (by rw [List.length_set, hl]) ?_
   by_cases he : x.1 = p
   · right
     rw [List.getElem?_set, if_pos he, he]
     by_cases hp : p < now.length
     · rw [if_pos hp, List.getD_eq_getElem?_getD, List.getElem?_eq_getElem (by omega)]; rfl
     · rw [if_neg hp, List.getElem?_eq_none (by omega)]
   · rcases h with ⟨y, hy, e⟩ | h
     · rcases List.mem_cons.1 hy with rfl | hy
       · exact absurd e he
       · exact .inl ⟨y, hy, e⟩
     · right; rw [List.getElem?_set_ne he]; exact h
theorem back_all (keep : Nat) (xs : List (Nat × List UInt8)) (s : List (List UInt8)) : back (over keep 0 xs s) xs (allw xs s) = over keep 0 xs s := by
 apply List.ext_getElem?
 intro p
 refine back_there _ p xs _ (by rw [allw_length, over_length]) ?_
 by_cases h : ∃ x ∈ xs, x.1 = p
 · exact .inl h
 · right
   have h2 : ∀ x ∈ xs, x.1 ≠ p := fun x hx e => h ⟨x, hx, e⟩
   rw [allw_far p xs s h2, over_far keep p xs 0 s h2]
theorem over_next (keep : Nat) (xs : List (Nat × List UInt8)) (s : List (List UInt8)) (k : Nat) (x : Nat × List UInt8) (hx : xs[k]? = some x) : over keep 0 (xs.take (k + 1)) s = if kept keep k then (over keep 0 (xs.take k) s).set x.1 x.2 else over keep 0 (xs.take k) s := by
 have hk := (List.getElem?_eq_some_iff.1 hx).1
 rw [List.take_add_one, hx]
 simp only [Option.toList_some]
 rw [over_snoc, Nat.zero_add, List.length_take, Nat.min_eq_left (by omega)]
theorem kept_bit (keep i m : Nat) (hm : m = i % 64) (hk : keep < 18446744073709551616) : ∃ z : Nat, bits .and .u64 (keep : Int) ((2 ^ m : Nat) : Int) = (z : Int) ∧ (z = 0 ↔ kept keep i = false) := by
 have h64 : m < 64 := by rw [hm]; exact Nat.mod_lt _ (by decide)
 have hp : 2 ^ m < 18446744073709551616 := Nat.pow_lt_pow_right (by decide : 1 < 2) h64
 refine ⟨_, bits_and_u64_nat keep (2 ^ m) hk hp, ?_⟩
 rw [kept, ← hm, ← Nat.testBit_eq_decide_div_mod_eq]
 constructor
 · intro h
   have h1 := congrArg (fun a => a.testBit m) h
   simp only [Nat.testBit_and, Nat.zero_testBit, Nat.testBit_two_pow_self, Bool.and_true] at h1
   exact h1
 · intro h
   apply Nat.eq_of_testBit_eq
   intro j
   rw [Nat.testBit_and, Nat.testBit_two_pow, Nat.zero_testBit]
   by_cases hj : m = j
   · subst hj; rw [h]; rfl
   · simp [hj]
end Disk
namespace Kit
open Go Go.RowKit
theorem OwnK.blk {k : Nat} {e : TypeId} {w : World} {g n c : Nat} {xs : List Value} (h : OwnK k e w (some ⟨g, 0, none⟩) n c xs) : ∃ cur, Blk w g e cur ∧ cur.length = c * k ∧ cur.take (n * k) = xs ∧ n ≤ c ∧ c ≤ maxLen := by
 rcases h.2 with ⟨h1, h2⟩ | ⟨g', cap, cur, h1, _, hg, hnc, hcm, hcs, ht⟩
 · injection h1 with h1; cases h1
 · injection h1 with h1 _ h3; injection h1 with h1; injection h1 with h1; subst h1; subst h3
   exact ⟨cur.toList, by unfold Blk; simpa using hg, by simpa using hcs, ht, hnc, hcm⟩
theorem OwnK.of_blk {k : Nat} {e : TypeId} {w : World} {g n c : Nat} {cur xs : List Value} (hB : Blk w g e cur) (hl : cur.length = c * k) (hx : cur.take (n * k) = xs) (hn : n ≤ c) (hc : c ≤ maxLen) : OwnK k e w (some ⟨g, 0, none⟩) n c xs := by
 refine ⟨?_, .inr ⟨g, c, cur.toArray, rfl, Nat.zero_le _, hB, hn, hc, by simpa using hl, by simpa using hx⟩⟩
 rw [← hx, List.length_take, hl, Nat.min_eq_left (Nat.mul_le_mul_right _ hn)]
theorem OwnK.some_ {k : Nat} {e : TypeId} {w : World} {A : Option Addr} {n c : Nat} {xs : List Value} (h : OwnK k e w A n c xs) (hn : 0 < n) : ∃ g, A = some ⟨g, 0, none⟩ := by
 rcases h.2 with ⟨_, h2⟩ | ⟨g', cap, cur, h1, _⟩
 · omega
 · injection h1 with h1; exact ⟨g', h1⟩
theorem OwnK.none_ {k : Nat} {e : TypeId} {w : World} {A : Option Addr} {n c : Nat} {xs : List Value} (h : OwnK k e w A n c xs) : A = none → c = 0 := by
 rintro rfl
 rcases h.2 with ⟨h1, _⟩ | ⟨g, cap, cur, h1, _⟩
 · injection h1
 · injection h1 with h1; cases h1
end Kit
namespace Disk
open Go Go.RowKit Kit
def wcell (x : Nat × List UInt8) : List Value := .int .i64 (x.1 : Int) :: bvs x.2
theorem wcell_length (x : Nat × List UInt8) (h : x.2.length = 256) : (wcell x).length = 257 := by simp [wcell, h]
theorem wcell_one (x : Nat × List UInt8) : ∀ u ∈ wcell x, u.oneCell' = true := by
 intro u hu
 rcases List.mem_cons.1 hu with rfl | hu
 · rfl
 · exact bvs_one _ u hu
structure Cd (w : World) (g N S : Nat) (W : Option Addr) (cW : Nat) (D : Dk) : Prop where
 b : Blk w g 86 [.slice (some ⟨N, 0, none⟩) D.now.length D.now.length, .slice (some ⟨S, 0, none⟩) D.now.length D.now.length, .slice W D.waits.length cW, .bool D.off, .int .i64 (D.acts : Int), .int .i64 (D.fuse : Int), .int .u64 (D.keep : Int)]
 now : Blk w N 90 (D.now.flatMap bvs)
 safe : Blk w S 90 (D.safe.flatMap bvs)
 waits : OwnK 257 95 w W D.waits.length cW (D.waits.flatMap wcell)
 ok : Ok D
 al : D.now = allw D.waits D.safe
 max : D.now.length ≤ 4096
 ne : N ≠ g ∧ S ≠ g ∧ N ≠ S
 nw : ∀ k, ab W = some k → k ≠ g ∧ k ≠ N ∧ k ≠ S
def dF (g N S : Nat) (W : Option Addr) : Nat → Prop := fun k => k = g ∨ k = N ∨ k = S ∨ ab W = some k
theorem Cd.keep {w w2 : World} {g N S : Nat} {W : Option Addr} {cW : Nat} {D : Dk} {G : Nat → Prop} (h : Cd w g N S W cW D) (k : Kp G w w2) (hF : ∀ i, dF g N S W i → ¬ G i) : Cd w2 g N S W cW D :=
 ⟨h.b.keep k (hF _ (.inl rfl)), h.now.keep k (hF _ (.inr (.inl rfl))), h.safe.keep k (hF _ (.inr (.inr (.inl rfl)))), h.waits.keep k (fun j e => hF j (.inr (.inr (.inr e)))), h.ok, h.al, h.max, h.ne, h.nw⟩
theorem Cd.keep0 {w w2 : World} {g N S : Nat} {W : Option Addr} {cW : Nat} {D : Dk} (h : Cd w g N S W cW D) (k : Kp nob w w2) : Cd w2 g N S W cW D := h.keep k (fun _ _ e => e)
theorem Cd.lt {w : World} {g N S : Nat} {W : Option Addr} {cW : Nat} {D : Dk} (h : Cd w g N S W cW D) : ∀ k, dF g N S W k → k < w.heap.size := by
 intro k e
 rcases e with rfl | rfl | rfl | e
 · exact h.b.lt
 · exact h.now.lt
 · exact h.safe.lt
 · exact h.waits.lt k e
theorem Cd.cells {w : World} {g N S : Nat} {W : Option Addr} {cW : Nat} {D : Dk} (h : Cd w g N S W cW D) :
    w.cell? ⟨g, 0, none⟩ = some (.slice (some ⟨N, 0, none⟩) D.now.length D.now.length) ∧ w.cell? ⟨g, 1, none⟩ = some (.slice (some ⟨S, 0, none⟩) D.now.length D.now.length) ∧ w.cell? ⟨g, 2, none⟩ = some (.slice W D.waits.length cW) ∧ w.cell? ⟨g, 3, none⟩ = some (.bool D.off) ∧ w.cell? ⟨g, 4, none⟩ = some (.int .i64 (D.acts : Int)) ∧ w.cell? ⟨g, 5, none⟩ = some (.int .i64 (D.fuse : Int)) ∧ w.cell? ⟨g, 6, none⟩ = some (.int .u64 (D.keep : Int)) :=
 ⟨h.b.cell 0, h.b.cell 1, h.b.cell 2, h.b.cell 3, h.b.cell 4, h.b.cell 5, h.b.cell 6⟩
theorem Cd.own {w w2 : World} {g N S : Nat} {W : Option Addr} {cW : Nat} {D D2 : Dk} (h : Cd w g N S W cW D) (k : Kp (oneB g) w w2) (hn : D2.now = D.now) (hs : D2.safe = D.safe) (hw : D2.waits = D.waits)
    (hb : Blk w2 g 86 [.slice (some ⟨N, 0, none⟩) D.now.length D.now.length, .slice (some ⟨S, 0, none⟩) D.now.length D.now.length, .slice W D.waits.length cW, .bool D2.off, .int .i64 (D2.acts : Int), .int .i64 (D2.fuse : Int), .int .u64 (D2.keep : Int)]) : Cd w2 g N S W cW D2 :=
 ⟨by rw [hn, hw]; exact hb, by rw [hn]; exact h.now.keep k h.ne.1, by rw [hs]; exact h.safe.keep k h.ne.2.1, by rw [hw]; exact h.waits.keep k (fun j e => (h.nw j e).1), ⟨by rw [hs, hn]; exact h.ok.safe, by rw [hn]; exact h.ok.now, by rw [hs]; exact h.ok.safe2, by rw [hw, hn]; exact h.ok.waits⟩, by rw [hn, hw, hs]; exact h.al, by rw [hn]; exact h.max, h.ne, h.nw⟩
def Dz (w : World) (g N S : Nat) (W : Option Addr) (D2 : Dk) (w2 : World) : Prop := ∃ (W2 : Option Addr) (c2 : Nat), Cd w2 g N S W2 c2 D2 ∧ Kp (dF g N S W) w w2 ∧ ∀ k, ab W2 = some k → ab W = some k ∨ w.heap.size ≤ k
theorem Dz.df {w w2 : World} {g N S : Nat} {W W2 : Option Addr} (h : ∀ k, ab W2 = some k → ab W = some k ∨ w.heap.size ≤ k) : ∀ k, dF g N S W2 k → dF g N S W k ∨ w.heap.size ≤ k := by
 intro k e
 rcases e with e | e | e | e
 · exact .inl (.inl e)
 · exact .inl (.inr (.inl e))
 · exact .inl (.inr (.inr (.inl e)))
 · rcases h k e with h | h
   · exact .inl (.inr (.inr (.inr h)))
   · exact .inr h
theorem Dz.trans {w w2 w3 : World} {g N S : Nat} {W W2 : Option Addr} {D3 : Dk} (k : Kp (dF g N S W) w w2) (hw : ∀ k, ab W2 = some k → ab W = some k ∨ w.heap.size ≤ k) (h : Dz w2 g N S W2 D3 w3) : Dz w g N S W D3 w3 := by
 obtain ⟨W3, c3, h1, h2, h3⟩ := h
 refine ⟨W3, c3, h1, k.trans h2 (fun i e => Dz.df (w2 := w) hw i e), fun i e => ?_⟩
 rcases h3 i e with h | h
 · exact hw i h
 · exact .inr (Nat.le_trans k.size h)
theorem Dz.since {w w2 w3 : World} {g N S : Nat} {W : Option Addr} {D3 : Dk} (k : Kp nob w w2) (h : Dz w2 g N S W D3 w3) : Dz w g N S W D3 w3 := Dz.trans (k.nob _) (fun _ e => .inl e) h
theorem Dz.then {w w2 w3 : World} {g N S : Nat} {W : Option Addr} {D3 : Dk} (h : Dz w g N S W D3 w2) (k : Kp nob w2 w3) : Dz w g N S W D3 w3 := by
 obtain ⟨W3, c3, h1, h2, h3⟩ := h
 exact ⟨W3, c3, h1.keep0 k, h2.trans k (fun _ e => e.elim), h3⟩
theorem Cd.self {w : World} {g N S : Nat} {W : Option Addr} {cW : Nat} {D : Dk} (h : Cd w g N S W cW D) : Dz w g N S W D w := ⟨W, cW, h, Kp.refl _ _, fun _ e => .inl e⟩
theorem sec_under : Tryz.prog.underlying 90 = some (.array 256 5) := by kernel_rfl
theorem sec_size : (Tryz.prog.info? 90).map (·.size) = some 256 := by kernel_rfl
theorem sec_size' (s : List UInt8) (h : s.length = 256) : (Tryz.prog.info? 90).map (·.size) = some (bvs s).length := by rw [bvs_length, h]; exact sec_size
theorem wr_under : Tryz.prog.underlying 95 = some (.struct (Tryz.prog.fieldsOf 95)) := by kernel_rfl
theorem wr_size' (x : Nat × List UInt8) (h : x.2.length = 256) : (Tryz.prog.info? 95).map (·.size) = some (wcell x).length := by rw [wcell_length x h]; kernel_rfl
theorem u8s_under : Tryz.prog.underlying 58 = some (.slice 5) := by kernel_rfl
theorem u8_size : (Tryz.prog.info? 5).map (·.size) = some 1 := by kernel_rfl
theorem refused_any (D : Dk) (g N S : Nat) (W : Option Addr) (cW : Nat) (w : World) (h : Cd w g N S W cW D) :
    Calls Tryz.prog 36 #[.pointer (some ⟨g, 0, none⟩)] w fun e w' => e = .returned (.int .i64 (if D.off then 8 else 0)) ∧ w = w' := by
 obtain ⟨c0, c1, c2, c3, c4, c5, c6⟩ := h.cells
 clear c0 c1 c2 c4 c5 c6 h
 cases ho : D.off with
 | true =>
   rw [ho] at c3; clear ho
   go_enter Tryz.func36, Tryz.ntmps36
   go_wp2
   go_ret
   exact ⟨rfl, rfl⟩
 | false =>
   rw [ho] at c3; clear ho
   go_enter Tryz.func36, Tryz.ntmps36
   go_wp2
   go_ret
   exact ⟨rfl, rfl⟩
def has (D : Dk) (i : Int) : Bool := decide (0 ≤ i ∧ i < (D.now.length : Int))
theorem has_any (D : Dk) (i : Int) (g N S : Nat) (W : Option Addr) (cW : Nat) (w : World) (h : Cd w g N S W cW D) :
    Calls Tryz.prog 61 #[.pointer (some ⟨g, 0, none⟩), .int .i64 i] w fun e w' => e = .returned (.bool (has D i)) ∧ w = w' := by
 obtain ⟨c0, c1, c2, c3, c4, c5, c6⟩ := h.cells
 clear c1 c2 c3 c4 c5 c6 h
 by_cases h1 : 0 ≤ i
 · by_cases h2 : i < (D.now.length : Int)
   · have HM := Lib.hid (show has D i = true by unfold has; exact decide_eq_true ⟨h1, h2⟩)
     go_enter Tryz.func61, Tryz.ntmps61
     go_wp2
     go_ret
     rw [HM.out]; exact ⟨rfl, rfl⟩
   · have HM := Lib.hid (show has D i = false by unfold has; exact decide_eq_false (fun e => h2 e.2))
     go_enter Tryz.func61, Tryz.ntmps61
     go_wp2
     go_ret
     rw [HM.out]; exact ⟨rfl, rfl⟩
 · have HM := Lib.hid (show has D i = false by unfold has; exact decide_eq_false (fun e => h1 e.1))
   go_enter Tryz.func61, Tryz.ntmps61
   go_wp2
   go_ret
   rw [HM.out]; exact ⟨rfl, rfl⟩
theorem on_any (D : Dk) (g N S : Nat) (W : Option Addr) (cW : Nat) (w : World) (h : Cd w g N S W cW D) :
    Calls Tryz.prog 17 #[.pointer (some ⟨g, 0, none⟩)] w fun e w' => e = .returned (.tuple #[]) ∧ Cd w' g N S W cW (on D) ∧ Kp (oneB g) w w' := by
 have f3 : w.frozen? ⟨g, 3, none⟩ = false := h.b.frozen _
 have c3 := h.cells.2.2.2.1
 have K1 := Lib.hid ((Kp.refl (oneB g) w).setCell (p := ⟨g, 3, none⟩) (.inl rfl) (.bool false))
 have HB1 := Lib.hid (h.b.set_ 3 (.bool false))
 have HD := Lib.hid h
 clear h
 go_enter Tryz.func17, Tryz.ntmps17
 go_wp2
 exact bodyPost_end (results_none rfl _ _ _) rfl ⟨rfl, HD.out.own K1.out rfl rfl rfl HB1.out, K1.out⟩
theorem arm_any (D : Dk) (n : Int) (keep : Nat) (g N S : Nat) (W : Option Addr) (cW : Nat) (w : World) (h : Cd w g N S W cW D) :
    Calls Tryz.prog 14 #[.pointer (some ⟨g, 0, none⟩), .int .i64 n, .int .u64 (keep : Int)] w fun e w' => e = .returned (.tuple #[]) ∧ Cd w' g N S W cW (arm D n keep) ∧ Kp (oneB g) w w' := by
 have f5 : w.frozen? ⟨g, 5, none⟩ = false := h.b.frozen _
 have f6 : w.frozen? ⟨g, 6, none⟩ = false := h.b.frozen _
 have c5 := h.cells.2.2.2.2.2.1
 have c6 := h.cells.2.2.2.2.2.2
 have HD := Lib.hid h
 obtain ⟨m, hm⟩ : ∃ m : Nat, m = n.toNat := ⟨_, rfl⟩
 have hmx : (if 0 < n then n else 0) = (m : Int) := by split <;> omega
 have hmx2 : (if n < 0 then 0 else n) = (m : Int) := by split <;> omega
 have hmx3 : (if 0 > n then 0 else n) = (m : Int) := by split <;> omega
 have HM := Lib.hid hm
 have K1 := Lib.hid (((Kp.refl (oneB g) w).setCell (p := ⟨g, 5, none⟩) (.inl rfl) (.int .i64 (m : Int))).setCell (p := ⟨g, 6, none⟩) (.inl rfl) (.int .u64 (keep : Int)))
 have HB1 := Lib.hid ((h.b.set_ 5 (.int .i64 (m : Int))).set_ 6 (.int .u64 (keep : Int)))
 clear h hm
 go_enter Tryz.func14, Tryz.ntmps14
 go_wp2
 refine bodyPost_end (results_none rfl _ _ _) rfl ⟨rfl, HD.out.own K1.out rfl rfl rfl ?_, K1.out⟩
 show Blk _ _ _ [_, _, _, _, _, .int .i64 ((n.toNat : Nat) : Int), _]
 rw [← HM.out]
 exact HB1.out
def told (D : Dk) : Value := .tuple #[.bool (act D).2, .int .u64 (if (act D).2 then (D.keep : Int) else 0)]
theorem told_no (D : Dk) (h : (act D).2 = false) : told D = .tuple #[.bool false, .int .u64 0] := by rw [told, h]; rfl
theorem told_yes (D : Dk) (h : (act D).2 = true) : told D = .tuple #[.bool true, .int .u64 (D.keep : Int)] := by rw [told, h]; rfl
theorem act1_any (D : Dk) (g N S : Nat) (W : Option Addr) (cW : Nat) (w : World) (h : Cd w g N S W cW D) (ha : D.acts ≤ 1000000000000) (hf : D.fuse ≤ 9223372036854775807) :
    Calls Tryz.prog 97 #[.pointer (some ⟨g, 0, none⟩)] w fun e w' => e = .returned (told D) ∧ Cd w' g N S W cW (act D).1 ∧ Kp (oneB g) w w' := by
 obtain ⟨c0, c1, c2, c3, c4, c5, c6⟩ := h.cells
 have f4 : w.frozen? ⟨g, 4, none⟩ = false := h.b.frozen _
 have f5 : w.frozen? ⟨g, 5, none⟩ = false := h.b.frozen _
 have HD := Lib.hid h
 have HR := Lib.hid (refused_any D g N S W cW w h)
 clear c0 c1 c2 h
 cases ho : D.off with
 | true =>
   rw [ho] at HR
   have HA := Lib.hid (act_off D ho)
   clear ho
   go_enter Tryz.func97, Tryz.ntmps97
   go_wp2_with fail
   refine HR.out.mono ?_
   rintro e w1 ⟨rfl, rfl⟩
   go_wp2
   go_ret2
   rw [told_no D (by rw [HA.out]), HA.out]; exact ⟨rfl, HD.out, Kp.refl _ _⟩
 | false =>
   rw [ho] at HR
   have HA := Lib.hid (act_on D ho)
   obtain ⟨a1, ha1⟩ : ∃ a, a = D.acts + 1 := ⟨_, rfl⟩
   have e1 : IntKind.i64.wrap ((D.acts : Int) + 1) = (a1 : Int) := by rw [IntWalk.i64_in _ (by omega)]; omega
   have HA1 := Lib.hid ha1
   have K := Lib.hid (((Kp.refl (oneB g) w).setCell (p := ⟨g, 4, none⟩) (.inl rfl) (.int .i64 (a1 : Int))))
   have HB1 := Lib.hid (HD.out.b.set_ 4 (.int .i64 (a1 : Int)))
   by_cases h0 : D.fuse = 0
   · have HRR := Lib.hid (show (act D).1 = { D with acts := a1, fuse := 0 } ∧ (act D).2 = false by rw [HA.out, h0, ha1]; exact ⟨rfl, rfl⟩)
     rw [h0] at c5
     have H0 := Lib.hid h0
     clear ho ha1 ha h0 hf
     go_enter Tryz.func97, Tryz.ntmps97
     go_wp2_with fail
     refine HR.out.mono ?_
     rintro e w1 ⟨rfl, rfl⟩
     go_wp2
     go_ret2
     rw [told_no D HRR.out.2, HRR.out.1]
     refine ⟨rfl, HD.out.own K.out rfl rfl rfl ?_, K.out⟩
     have := HB1.out
     rw [H0.out] at this
     exact this
   · obtain ⟨f1, hf1⟩ : ∃ f, f = D.fuse - 1 := ⟨_, rfl⟩
     have e2 : IntKind.i64.wrap ((D.fuse : Int) - 1) = (f1 : Int) := by rw [IntWalk.i64_in _ (by omega)]; omega
     have h0' : ((D.fuse : Int) == 0) = false := beq_eq_false_iff_ne.2 (by omega)
     have HRR := Lib.hid (show (act D).1 = { D with acts := a1, fuse := f1 } ∧ (act D).2 = decide (f1 = 0) by rw [HA.out, ha1, hf1]; exact ⟨rfl, by simp only; congr 1; rw [eq_iff_iff]; omega⟩)
     have K2 := Lib.hid (K.out.setCell (p := ⟨g, 5, none⟩) (.inl rfl) (.int .i64 (f1 : Int)))
     have HB2 := Lib.hid (HB1.out.set_ 5 (.int .i64 (f1 : Int)))
     by_cases hz : f1 = 0
     · have hg : decide (0 < f1) = false := by simp; omega
       have HZ := Lib.hid hz
       clear ho ha1 ha h0 hf hf1 hz
       go_enter Tryz.func97, Tryz.ntmps97
       go_wp2_with fail
       refine HR.out.mono ?_
       rintro e w1 ⟨rfl, rfl⟩
       go_wp2_with fail
       go_quiet (fail)
       go_wp2
       go_ret2
       rw [told_yes D (by rw [HRR.out.2, HZ.out]; rfl), HRR.out.1]
       exact ⟨rfl, (HD.out.own (D2 := { D with acts := a1, fuse := f1 }) K2.out rfl rfl rfl HB2.out).keep0 ((Kp.refl nob _).drewN _), K2.out.drewN _⟩
     · have hg : decide (0 < f1) = true := by simp; omega
       have HZ := Lib.hid (show decide (f1 = 0) = false from decide_eq_false hz)
       clear ho ha1 ha h0 hf hf1 hz
       go_enter Tryz.func97, Tryz.ntmps97
       go_wp2_with fail
       refine HR.out.mono ?_
       rintro e w1 ⟨rfl, rfl⟩
       go_wp2
       go_ret2
       rw [told_no D (HRR.out.2.trans HZ.out), HRR.out.1]
       exact ⟨rfl, HD.out.own K2.out rfl rfl rfl HB2.out, K2.out⟩
structure AreaP where
 is : World → Nat → Nat → Ar → Prop
 lt : ∀ {w : World} {a g : Nat} {A : Ar}, is w a g A → a < w.heap.size
 keep : ∀ {w w2 : World} {a g : Nat} {A : Ar} {F : Nat → Prop}, is w a g A → Kp F w w2 → ¬ F a → is w2 a g A
 disk : ∀ {w : World} {a g : Nat} {A : Ar}, is w a g A → w.cell? ⟨a, 0, none⟩ = some (.pointer (some ⟨g, 0, none⟩))
def aF (g N S : Nat) (W : Option Addr) (a : Nat) : Nat → Prop := fun k => dF g N S W k ∨ k = a
structure Far (D : Dk) : Prop where
 waits : D.waits.length ≤ 90000
 acts : D.acts ≤ 900000000000
 fuse : D.fuse ≤ 9223372036854775807
 keep : D.keep < 18446744073709551616
def HalfC (P : AreaP) : Prop := ∀ (D : Dk) (g N S : Nat) (W : Option Addr) (cW : Nat) (epoch : Int) (w : World), Cd w g N S W cW D → (0 ≤ epoch ∧ epoch ≤ 9223372036854775807) →
 Calls Tryz.prog 44 #[.pointer (some ⟨g, 0, none⟩), .int .i64 epoch] w fun e w' => ∃ a, e = .returned (.pointer (some ⟨a, 0, none⟩)) ∧ P.is w' a g (aHalf D.now.length (decide (epoch % 2 = 1))) ∧ Kp nob w w' ∧ w.heap.size ≤ a
def LeftC (P : AreaP) : Prop := ∀ (a g : Nat) (A : Ar) (w : World), P.is w a g A → A.pos ≤ A.top → A.top ≤ 4096 →
 Calls Tryz.prog 47 #[.pointer (some ⟨a, 0, none⟩)] w fun e w' => e = .returned (.int .i64 ((A.top - A.pos : Nat) : Int)) ∧ Kp nob w w'
def AddP (P : AreaP) (D : Dk) (g N S : Nat) (W : Option Addr) (a : Nat) (A : Ar) (s : List UInt8) (w w' : World) : Prop := ∃ (W2 : Option Addr) (c2 : Nat), Cd w' g N S W2 c2 (aAdd D A s).1 ∧ Kp (aF g N S W a) w w' ∧ (∀ k, ab W2 = some k → ab W = some k ∨ w.heap.size ≤ k) ∧ P.is w' a g (aAdd D A s).2.1
def AddC (P : AreaP) : Prop := ∀ (D : Dk) (g N S : Nat) (W : Option Addr) (cW a : Nat) (A : Ar) (X : Option Addr) (n c : Nat) (s : List UInt8) (w : World), Cd w g N S W cW D → P.is w a g A → ¬ dF g N S W a → A.pos ≤ A.top → A.top ≤ D.now.length → Far D →
 s.length = n → Row w X (bvs s) → n ≤ c → c ≤ maxLen → (X = none → c = 0) → (s = [] ∨ ∀ i, ab X = some i → ¬ aF g N S W a i) → n ≤ 1048576 →
 Calls Tryz.prog 80 #[.pointer (some ⟨a, 0, none⟩), .slice X n c] w fun e w' => e = .returned (.int .i64 (aAdd D A s).2.2) ∧ AddP P D g N S W a A s w w'
def NextC (P : AreaP) : Prop := ∀ (D : Dk) (g N S : Nat) (W : Option Addr) (cW a : Nat) (A : Ar) (w : World), Cd w g N S W cW D → P.is w a g A → ¬ dF g N S W a → A.pos ≤ A.top → A.top ≤ D.now.length →
 Calls Tryz.prog 75 #[.pointer (some ⟨a, 0, none⟩)] w fun e w' => ∃ (X : Option Addr) (c : Nat), e = .returned (.tuple #[.slice X (aNext D A).2.1.length c, .int .i64 (aNext D A).2.2]) ∧ Row w' X (bvs (aNext D A).2.1) ∧ (aNext D A).2.1.length ≤ c ∧ c ≤ maxLen ∧ (X = none → c = 0) ∧ (∀ i, ab X = some i → w.heap.size ≤ i) ∧ Kp (oneB a) w w' ∧ P.is w' a g (aNext D A).1
theorem size_any (D : Dk) (g N S : Nat) (W : Option Addr) (cW : Nat) (w : World) (h : Cd w g N S W cW D) :
    Calls Tryz.prog 64 #[.pointer (some ⟨g, 0, none⟩)] w fun e w' => e = .returned (.int .i64 (D.now.length : Int)) ∧ w = w' := by
 obtain ⟨c0, c1, c2, c3, c4, c5, c6⟩ := h.cells
 clear c1 c2 c3 c4 c5 c6 h
 go_enter Tryz.func64, Tryz.ntmps64
 go_wp2
 go_ret
 exact ⟨rfl, rfl⟩
theorem down_any (D : Dk) (g N S : Nat) (W : Option Addr) (cW : Nat) (w : World) (h : Cd w g N S W cW D) :
    Calls Tryz.prog 55 #[.pointer (some ⟨g, 0, none⟩)] w fun e w' => e = .returned (.bool D.off) ∧ w = w' := by
 obtain ⟨c0, c1, c2, c3, c4, c5, c6⟩ := h.cells
 clear c0 c1 c2 c4 c5 c6 h
 go_enter Tryz.func55, Tryz.ntmps55
 go_wp2
 go_ret
 exact ⟨rfl, rfl⟩
end Disk
end Go.Proofs.YtigdlnfgdjfdoaaGreat
